/- ZTzTa -/
import Derived.Test.YtchjckdjkecjnaaGreatDoorYTyRefD
import Derived.Test.YtchjckdjkecjnaaGreatDoorYTzTx
import Derived.Test.YtchjckdjkecjnaaGreatDoorYTzP
import Derived.Test.YtchjckdjkecjnaaGreatDoorYTzY
import Derived.Test.YtchjckdjkecjnaaGreatDoorYTzTy
import Derived.Test.YtchjckdjkecjnaaGreatDoorYTzO
namespace Go.Proofs.YtchjckdjkecjnaaGreatDoor.Ty
open Go.RowKit
open Ex Lx
set_option linter.unusedVariables false
set_option linter.unusedSimpArgs false
theorem okF_of_print (t : T) (hn : t.row.nums) (h : (printM t).2 = 0) : okF t.row := by
  by_cases hz : (t.chk 0).1 = 0
  · exact (okF_of_chk t.row 0 hn hz).1
  · exfalso
    apply hz
    unfold printM at h
    rw [if_pos hz] at h
    exact h
set_option maxRecDepth 100000 in
set_option maxHeartbeats 4000000 in
theorem rOf_any (s : Sc) (pe pa pf : Option Addr) (ce ca cf : Nat) (hf : ScFit s) (t : T) (hfit : t.row.fits) (hnums : t.row.nums) (p : Option Addr) (c : Nat) (w : World) (hs : ScAt w pe pa pf s) (hfa : FAt w (fun _ => True) t.args p) :
    Calls Tryz.prog 12 #[.slice pe s.enums.length ce, .slice pa s.attrs.length ca, .slice pf s.fields.length cf, .agg #[.int .i64 t.op, .int .i64 t.num, .string (S t.text), .slice p t.args.len c]] w fun e w' => e = retT (ofM s t) ∧ Below w.heap.size w w' := by
  obtain ⟨W2, hW2⟩ : ∃ W2, W2 = (w.alloc (.cells #[.int .i64 t.op, .int .i64 t.num, .string (S t.text), .slice p t.args.len c] 28)).alloc (.cells #[.int .i64 0, .string ⟨#[]⟩, .string ⟨#[]⟩] 35) := ⟨_, rfl⟩
  have hb2 : Below w.heap.size w W2 := by rw [hW2]; exact ((Below.refl w.heap.size w).alloc (Nat.le_refl _) _).alloc (by simp) _
  have hbx : Bx W2 w.heap.size (.int .i64 t.op) (.int .i64 t.num) (.string (S t.text)) (.slice p t.args.len c) := by rw [hW2]; exact (Bx.new w _ _ _ _).keep (Kept.alloc (ok := fun _ => True) _ _) trivial
  have hrb : RB W2 (w.heap.size + 1) (.int .i64 0) (.string ⟨#[]⟩) (.string ⟨#[]⟩) := by rw [hW2]; exact RB.new _ _ _ _ _ (by simp)
  have HW2 := Lib.hid hW2
  have HS := Lib.hid (hs.later hb2)
  have HBX := Lib.hid hbx
  have HRB := Lib.hid hrb
  have HB2 := Lib.hid hb2
  have HFA := Lib.hid (hfa.keep (Kept.of_below hb2))
  have HPR := Lib.hid (rprint_any t hfit hnums p c W2 HFA.out)
  have HOF := Lib.hid (fun (h : (printM t).2 = 0) => (rof_all s pe pa pf ce ca cf hf t.row (okF_of_print t hnums h)).1)
  have HM := Lib.hid (show ofM s t = if (printM t).2 = 0 then tyT s t else (TT.zero, (printM t).2) from rfl)
  obtain ⟨X, hX⟩ : ∃ X, X = ofM s t := ⟨_, rfl⟩
  rw [← hX] at HM ⊢
  have q0 := hbx.c0
  have q1 := hbx.c1
  have q2 := hbx.c2
  have q3 := hbx.c3
  clear hW2 hb2 hbx hrb hs hfa hX
  generalize printM t = PM at *
  obtain ⟨ptx, bad⟩ := PM
  simp only at HPR HOF HM
  obtain ⟨⟨xk, xe, xl⟩, xb⟩ := X
  unfold retT
  simp only
  go_enter Tryz.func12, Tryz.ntmps12
  go_wp2_with fail
  rw [← HW2.out]
  refine HPR.out.mono ?_
  rintro e w3 ⟨rfl, b3⟩
  have HB3 := Lib.hid (HB2.out.trans (b3.mono HB2.out.size))
  by_cases hz : bad = 0
  · have HX := Lib.hid (show ((⟨xk, xe, xl⟩, xb) : TT × Nat) = tyT s t by rw [HM.out, if_pos hz])
    have HC := HOF.out hz p c w3 (HS.out.later b3) (HFA.out.keep (Kept.of_below b3))
    rw [← HX.out] at HC
    unfold retT at HC
    simp only at HC
    have HC := Lib.hid HC
    subst hz
    have hx3 := HBX.out.keep (Kept.of_below (ok := fun _ => True) b3) trivial
    have q0 := hx3.c0
    have q1 := hx3.c1
    have q2 := hx3.c2
    have q3 := hx3.c3
    have HRB3 := Lib.hid (HRB.out.later b3)
    clear b3 hx3
    go_wp2_with fail
    refine HC.out.mono ?_
    rintro e w4 ⟨rfl, b4⟩
    have hnb := HRB3.out.later b4
    have fz := hnb.fz
    have k0 := hnb.c0
    have k1 := hnb.c1
    have k2 := hnb.c2
    have HP := Lib.hid (hnb.put (.int .i64 xk) (.string (S xe)) (.string (S xl)))
    have HB4 := Lib.hid (HB3.out.trans (b4.mono HB3.out.size))
    clear b4 hnb
    go_wp2_with fail
    have d0 := HP.out.c0
    have d1 := HP.out.c1
    have d2 := HP.out.c2
    exact bodyPost_ret (v := .tuple #[.agg #[.int .i64 xk, .string (S xe), .string (S xl)], .int .i64 xb]) (by simp [results, d0, d1, d2, Tryz.results12, go_sem]) rfl ⟨rfl, ((HB4.out.setCell (p := ⟨w.heap.size + 1, 0, none⟩) (by simp) _).setCell (p := ⟨w.heap.size + 1, 1, none⟩) (by simp) _).setCell (p := ⟨w.heap.size + 1, 2, none⟩) (by simp) _⟩
  · have HX := Lib.hid (show ((⟨xk, xe, xl⟩, xb) : TT × Nat) = (TT.zero, bad) by rw [HM.out, if_neg hz])
    have e1 : ((bad : Int) == 0) = false := by rw [beq_eq_false_iff_ne]; omega
    have e2 : ((bad : Int) != 0) = true := by simp; exact hz
    have hnb := HRB.out.later b3
    have fz := hnb.fz
    have k0 := hnb.c0
    have k1 := hnb.c1
    have k2 := hnb.c2
    have HP := Lib.hid (hnb.put (.int .i64 0) (.string ⟨#[]⟩) (.string ⟨#[]⟩))
    clear b3 hnb hz
    go_wp2_with fail
    have d0 := HP.out.c0
    have d1 := HP.out.c1
    have d2 := HP.out.c2
    have hx := HX.out
    injection hx with hx1 hx2
    injection hx1 with hx3 hx4 hx5
    subst hx2 hx3 hx4 hx5
    exact bodyPost_ret (v := .tuple #[.agg #[.int .i64 0, .string ⟨#[]⟩, .string ⟨#[]⟩], .int .i64 xb]) (by simp [results, d0, d1, d2, Tryz.results12, go_sem]) rfl ⟨rfl, ((HB3.out.setCell (p := ⟨w.heap.size + 1, 0, none⟩) (by simp) _).setCell (p := ⟨w.heap.size + 1, 1, none⟩) (by simp) _).setCell (p := ⟨w.heap.size + 1, 2, none⟩) (by simp) _⟩
end Go.Proofs.YtchjckdjkecjnaaGreatDoor.Ty
namespace Go.Proofs.YtchjckdjkecjnaaGreatDoor.Ev
open Ex Lx Va Ty
set_option linter.unusedVariables false
def four (e : Nat) : Prop := e = 22 ∨ e = 30 ∨ e = 31 ∨ e = 32
def Kd (x : V × Nat) (k : Int) : Prop := (x.2 = 0 ∧ x.1.kind = k) ∨ four x.2
def Kds : List (V × Nat) → List TT → Prop
  | [], [] => True
  | x :: r, t :: s => Kd x t.kind ∧ Kds r s
  | _, _ => False
def Vs : List V → List TT → Prop
  | [], [] => True
  | x :: r, t :: s => x.kind = t.kind ∧ Vs r s
  | _, _ => False
theorem four_ne {e : Nat} (h : four e) : e ≠ 0 := by unfold four at h; omega
theorem seq_kds : ∀ (l : List (V × Nat)) (ts : List TT), Kds l ts → ((seqE l).2 = 0 ∧ Vs (seqE l).1 ts) ∨ four (seqE l).2
  | [], [], _ => .inl ⟨rfl, trivial⟩
  | x :: r, t :: s, h => by
    unfold seqE
    rcases h.1 with ⟨h0, hk⟩ | h4
    · rw [if_pos h0]
      rcases seq_kds r s h.2 with ⟨hr, hv⟩ | hr
      · rw [if_pos hr]; exact .inl ⟨rfl, hk, hv⟩
      · rw [if_neg (four_ne hr)]; exact .inr hr
    · rw [if_neg (four_ne h4)]; exact .inr h4
  | [], _ :: _, h => h.elim
  | _ :: _, [], h => h.elim
theorem vs_all : ∀ (l : List V) (ts : List TT) (k : Int), Vs l ts → allV l k = allK ts k
  | [], [], _, _ => rfl
  | x :: r, t :: s, k, h => by
    have := vs_all r s k h.2
    unfold allV allK at *
    simp only [List.all_cons, this, h.1]
  | [], _ :: _, _, h => h.elim
  | _ :: _, [], _, h => h.elim
theorem vs_arg : ∀ (l : List V) (ts : List TT) (i : Nat), Vs l ts → (argV l i).kind = (arg ts i).kind
  | [], [], _, _ => rfl
  | x :: r, t :: s, 0, h => h.1
  | x :: r, t :: s, i + 1, h => vs_arg r s i h.2
  | [], _ :: _, _, h => h.elim
  | _ :: _, [], _, h => h.elim
theorem named_kd (l : List AttrP) (vs : List V) (n : List UInt8) (h : ∀ i (h1 : i < l.length) (h2 : i < vs.length), vs[i].kind = 0 ∨ vs[i].kind = l[i].kind) (ht : (namedTy l n).2 = 0) : Kd (namedV l vs n) (namedTy l n).1.kind := by
  induction l generalizing vs with
  | nil => cases ht
  | cons a r ih =>
    unfold namedV
    unfold namedTy at ht ⊢
    by_cases ha : a.name = n
    · rw [if_pos ha, if_pos ha]
      cases vs with
      | nil => exact .inr (.inl rfl)
      | cons v s =>
        simp only
        by_cases hv : v.kind = 0
        · rw [if_pos hv]; exact .inr (.inl rfl)
        · rw [if_neg hv]
          rcases h 0 (by simp) (by simp) with e | e
          · exact absurd e hv
          · exact .inl ⟨rfl, e⟩
    · rw [if_neg ha] at ht ⊢
      rw [if_neg ha]
      refine ih vs.tail (fun i h1 h2 => ?_) ht
      cases vs with
      | nil => exact absurd h2 (by simp)
      | cons v s => exact h (i + 1) (by simp; omega) (by simp at h2 ⊢; omega)
theorem num_kd (n : Int) : Kd (numE n) 1 := by
  unfold numE
  split
  · exact .inl ⟨rfl, rfl⟩
  · exact .inr (.inr (.inl rfl))
theorem arith_kd (o a b : Int) : Kd (arithE o a b) 1 := by
  unfold arithE
  repeat' split
  all_goals first | exact num_kd _ | exact .inr (.inr (.inr (.inl rfl)))
theorem junc_kd (o : Int) (l : List (V × Nat)) (ts : List TT) (h : Kds l ts) (h2 : allK ts 2 = true) (hl : l.length = 2) : Kd (juncE o l) 2 := by
  match l, ts, h, hl with
  | [x, y], [t, s], h, _ =>
    have ht : t.kind = 2 := by simp [allK] at h2; exact h2.1
    have hs : s.kind = 2 := by simp [allK] at h2; exact h2.2
    unfold juncE
    simp only
    rcases h.1 with ⟨h0, hk⟩ | h4
    · rw [if_neg (by simpa using h0), if_neg (by simpa using hk.trans ht)]
      by_cases hx : x.1.num = (if o = 41 then 1 else 0)
      · rw [if_pos hx]; exact .inl ⟨rfl, hk.trans ht⟩
      · rw [if_neg hx]
        rcases h.2.1 with ⟨h0, hk⟩ | h4
        · rw [if_neg (by simpa using h0), if_neg (by simpa using hk.trans hs)]
          exact .inl ⟨rfl, hk.trans hs⟩
        · rw [if_pos (four_ne h4)]; exact .inr h4
    · rw [if_pos (four_ne h4)]; exact .inr h4
theorem op_kd (es : List EnumP) (o n : Int) (t : List UInt8) (l : List V) (ts : List TT) (hv : Vs l ts) (hf : fitB es o ts = true) (hc : cntB o l.length = true) (h4 : o ≠ 4) (h6 : o ≠ 6) (h7 : o ≠ 7) (h40 : o ≠ 40) (h41 : o ≠ 41) : Kd (opE o n t l) (kindOf o) := by
  have e0 := vs_arg l ts 0 hv
  have e1 := vs_arg l ts 1 hv
  have ea := fun k => vs_all l ts k hv
  unfold fitB at hf
  unfold opE
  by_cases h1 : o = 1
  · rw [if_pos h1]; subst h1; exact .inl ⟨rfl, rfl⟩
  rw [if_neg h1]
  by_cases h2 : o = 2
  · rw [if_pos h2]; subst h2; exact .inl ⟨rfl, rfl⟩
  rw [if_neg h2]
  by_cases h3 : o = 3
  · rw [if_pos h3]; subst h3; exact .inl ⟨rfl, rfl⟩
  rw [if_neg h3, if_neg h4]
  by_cases h5 : o = 5
  · rw [if_pos h5]; subst h5
    rw [ea 1, if_pos (by simpa using hf)]; exact .inl ⟨rfl, rfl⟩
  rw [if_neg h5]
  by_cases h10 : o = 10
  · rw [if_pos h10]; subst h10
    rw [ea 2, if_pos (by simpa using hf)]; exact .inl ⟨rfl, rfl⟩
  rw [if_neg (by omega)] at hf
  rw [if_neg h10]
  by_cases h12 : o = 12
  · rw [if_pos h12] at hf ⊢; subst h12
    have hl : l.length = 1 := by simpa [cntB] using hc
    have hk : (argV l 0).kind = 5 ∨ (argV l 0).kind = 3 := by
      rw [← ea 5, ← ea 3] at hf
      match l, hl with
      | [x], _ => simp [allV] at hf; exact hf
    rcases hk with hk | hk
    · rw [if_pos hk]; exact .inl ⟨rfl, rfl⟩
    · rw [if_neg (by omega), if_pos hk]; exact .inl ⟨rfl, rfl⟩
  rw [if_neg h12] at hf ⊢
  by_cases h25 : o = 25
  · rw [if_pos h25]; subst h25
    rw [if_pos (.inl rfl)] at hf
    simp at hf
    rw [if_pos ⟨by omega, by omega⟩]
    split
    · exact .inl ⟨rfl, rfl⟩
    · exact .inr (.inr (.inr (.inr rfl)))
  rw [if_neg h25]
  by_cases h26 : o = 26
  · rw [if_pos h26]; subst h26
    rw [if_pos (.inr rfl)] at hf
    simp at hf
    rw [if_pos ⟨by omega, by omega⟩]
    split
    · exact .inl ⟨rfl, rfl⟩
    · exact .inr (.inr (.inr (.inr rfl)))
  rw [if_neg h26]
  rw [if_neg (by omega)] at hf
  by_cases h30 : o = 30 ∨ o = 31
  · rw [if_pos h30] at hf ⊢
    have hk : (arg ts 0).kind = (arg ts 1).kind := by
      unfold alikeB at hf
      by_cases hne : (arg ts 0).kind ≠ (arg ts 1).kind
      · rw [if_pos hne] at hf; cases hf
      · simpa using hne
    rw [if_pos (by omega)]
    refine .inl ⟨rfl, ?_⟩
    rcases h30 with rfl | rfl <;> rfl
  rw [if_neg h30] at hf ⊢
  by_cases h32 : o = 32 ∨ o = 33
  · rw [if_pos h32] at hf ⊢
    rw [← ea 1, ← ea 3] at hf
    rw [if_pos (by simpa using hf)]
    refine .inl ⟨rfl, ?_⟩
    rcases h32 with rfl | rfl <;> rfl
  rw [if_neg h32] at hf ⊢
  rw [← ea 1] at hf
  rw [if_neg (by rw [hf]; decide)]
  have hk : kindOf o = 1 := by
    have : o = 11 ∨ o = 20 ∨ o = 21 ∨ o = 22 ∨ o = 23 ∨ o = 24 := by
      unfold cntB at hc
      rw [if_neg h5] at hc
      split at hc
      · omega
      split at hc
      · omega
      split at hc
      · omega
      · cases hc
    rcases this with rfl | rfl | rfl | rfl | rfl | rfl <;> rfl
  rw [hk]
  split
  · exact num_kd _
  · exact arith_kd _ _ _
structure Fits (s : Sc) (v : En) : Prop where
  attrs : v.attrs = s.attrs
  names : v.names = s.fields
  vals : ∀ i (h1 : i < s.attrs.length) (h2 : i < v.vals.length), v.vals[i].kind = 0 ∨ v.vals[i].kind = s.attrs[i].kind
  fields : ∀ i (h1 : i < s.fields.length) (h2 : i < v.fields.length), v.fields[i].kind = 0 ∨ v.fields[i].kind = s.fields[i].kind
theorem ev_kds (s : Sc) (v : En) (hv : Fits s v) : ∀ l : F, okE l → (tyF s l).2 = 0 → Kds (evL v l) (tyF s l).1
  | .nil, _, _ => trivial
  | .cons o n t a r, h, ht => by
    rw [tyF_cons] at ht ⊢
    by_cases h1 : (tyT s ⟨o, n, t, a⟩).2 = 0
    · rw [if_pos h1] at ht ⊢
      by_cases h2 : (tyF s r).2 = 0
      · rw [if_pos h2]
        refine ⟨?_, ev_kds s v hv r h.2.2.2.2 h2⟩
        unfold tyT nodeTy at h1 ⊢
        simp only at h1 ⊢
        by_cases h3 : (tyF s a).2 = 0
        · rw [if_pos h3] at h1 ⊢
          have ia := ev_kds s v hv a h.2.2.2.1 h3
          unfold oneTy at h1 ⊢
          unfold nodeE
          by_cases h4 : o = 4
          · rw [if_pos h4]
            subst h4
            rw [if_neg (by decide), if_neg (by decide), if_neg (by decide)]
            rcases seq_kds _ _ ia with ⟨hs, _⟩ | hs
            · rw [if_pos hs]; exact .inl ⟨rfl, rfl⟩
            · rw [if_neg (four_ne hs)]; exact .inr hs
          rw [if_neg h4] at h1 ⊢
          by_cases h6 : o = 6
          · rw [if_pos h6] at h1 ⊢
            rw [if_pos h6, hv.attrs]
            exact named_kd _ _ _ hv.vals h1
          rw [if_neg h6] at h1 ⊢
          rw [if_neg h6]
          by_cases h7 : o = 7
          · rw [if_pos h7] at h1 ⊢
            rw [if_pos h7, hv.names]
            exact named_kd _ _ _ hv.fields h1
          rw [if_neg h7] at h1 ⊢
          rw [if_neg h7]
          by_cases hf : fitB s.enums o (tyF s a).1 = true
          · rw [if_pos hf]
            have hcnt : cntB o a.len = true := by
              have := h.1
              simp only [formedB, Bool.and_eq_true] at this
              exact this.1.1.1.1.1
            by_cases h40 : o = 40 ∨ o = 41
            · rw [if_pos h40]
              have hk : kindOf o = 2 := by rcases h40 with rfl | rfl <;> rfl
              rw [show (⟨kindOf o, [], []⟩ : TT).kind = 2 from hk]
              refine junc_kd o _ _ ia ?_ ?_
              · unfold fitB at hf
                rw [if_pos (by omega)] at hf
                exact hf
              · rw [evL_len]
                rcases h40 with rfl | rfl <;> simpa [cntB] using hcnt
            · rw [if_neg h40]
              rcases seq_kds _ _ ia with ⟨hs, hvs⟩ | hs
              · rw [if_pos hs]
                exact op_kd s.enums o n t _ _ hvs hf (by rw [seqE_len _ hs, evL_len]; exact hcnt) h4 h6 h7 (by omega) (by omega)
              · rw [if_neg (four_ne hs)]; exact .inr hs
          · rw [if_neg hf] at h1; cases h1
        · rw [if_neg h3] at h1; exact absurd h1 h3
      · rw [if_neg h2] at ht; exact absurd ht h2
    · rw [if_neg h1] at ht; exact absurd ht h1
end Go.Proofs.YtchjckdjkecjnaaGreatDoor.Ev
namespace Go.Proofs.YtchjckdjkecjnaaGreatDoor.Ev
open Go.RowKit
open Ex Lx Va Ty
set_option linter.unusedVariables false
set_option linter.unusedSimpArgs false
def KdR (P : Prop) (e : Ending) : Prop := ∃ b, e = .returned (.bool b) ∧ (b = true → P)
def kindsP (l : List AttrP) (vs : List V) : Prop := ∀ i (h1 : i < l.length) (h2 : i < vs.length), vs[i].kind = 0 ∨ vs[i].kind = l[i].kind
set_option maxRecDepth 100000 in
set_option maxHeartbeats 4000000 in
theorem kinds_any (ok : Nat → Prop) (l : List AttrP) (vs : List V) (p q : Option Addr) (c c2 : Nat) (w : World) (hl : AttrsAt w p l) (hlen : l.length ≤ 281474976710656) (hv : VsAt ok w q vs) (hvl : vs.length ≤ 281474976710656) :
    Calls Tryz.prog 19 #[.slice p l.length c, .slice q vs.length c2] w fun e w' => KdR (kindsP l vs) e ∧ Below w.heap.size w w' := by
  have hki : (l.length : Int) ≤ 281474976710656 := by omega
  have hkv : (vs.length : Int) ≤ 281474976710656 := by omega
  have HL := Lib.hid hl
  have HV := Lib.hid hv
  clear hl hv
  go_enter Tryz.func19, Tryz.ntmps19
  go_wp2_with fail
  go_loopw [9] (fun iv wr => ∃ k : Nat, k ≤ l.length ∧ iv = .int .i64 k ∧ (∀ i (h1 : i < l.length) (h2 : i < vs.length), i < k → vs[i].kind = 0 ∨ vs[i].kind = l[i].kind) ∧ Below w.heap.size w wr) (fun iv _ => l.length - (intOf iv).toNat)
  case atStart => exact ⟨0, Nat.zero_le _, rfl, fun i _ _ h => absurd h (Nat.not_lt_zero _), Below.refl _ _⟩
  case round =>
    obtain ⟨k, hk, rfl, hA, hb⟩ := hrel
    by_cases hlt : k < l.length
    · have hlti : (k : Int) < (l.length : Int) := by omega
      obtain ⟨b, o, rfl, hbl, f0, f1, f2⟩ := (HL.out.later hb) k hlt
      obtain ⟨y, hy⟩ : ∃ y, y = l[k] := ⟨_, rfl⟩
      rw [← hy] at f0 f1 f2
      have ba := (Below.refl wr.heap.size wr).alloc (Nat.le_refl _) (.cells #[.string (S y.name), .int .i64 y.kind, .string (S y.enum)] 42)
      have HBA := Lib.hid (hb.trans (ba.mono hb.size))
      by_cases hk1 : k < vs.length
      · have g1 : decide ((k : Int) < (vs.length : Int)) = true := decide_eq_true (by omega)
        obtain ⟨b2, o2, rfl, ⟨qa, qc, v0, v1, v2, v3, _⟩, hbl2⟩ := (HV.out.below hb) k hk1
        have zb : ∀ o j, (wr.alloc o).cell? ⟨b2, j, none⟩ = wr.cell? ⟨b2, j, none⟩ := fun o j => zcell wr o b2 j hbl2
        obtain ⟨z, hz⟩ : ∃ z, z = vs[k] := ⟨_, rfl⟩
        rw [← hz] at v0 v1 v2 v3
        by_cases hbad : z.kind ≠ 0 ∧ z.kind ≠ y.kind
        · have e0 : (z.kind != 0) = true := by simpa using hbad.1
          have e1 : (z.kind != y.kind) = true := by simpa using hbad.2
          have HNO := Lib.hid (show ¬ kindsP l vs from fun h => by
            rcases h k hlt hk1 with h | h
            · exact hbad.1 (by rw [hz]; exact h)
            · exact hbad.2 (by rw [hz, hy]; exact h))
          clear hA hb ba hbad hz hy
          go_wp2_with fail
          go_region
          all_goals
            go_wp2_with fail
            go_ret
            exact ⟨⟨false, rfl, fun h => by cases h⟩, HBA.out.drew⟩
        · have HOKK := Lib.hid (show vs[k].kind = 0 ∨ vs[k].kind = l[k].kind by
            rw [← hz, ← hy]
            by_cases h0 : z.kind = 0
            · exact .inl h0
            · exact .inr (Classical.byContradiction fun h => hbad ⟨h0, h⟩))
          have HA := Lib.hid hA
          by_cases h0 : z.kind = 0
          · have e0 : (z.kind != 0) = false := by simpa using h0
            clear hA hb ba hbad hz hy h0
            go_wp2_with fail
            go_region
            all_goals
              go_wp2_with fail
              go_roundw
              case rel => exact ⟨k + 1, by omega, by go_num, fun i h1 h2 h3 => by
                by_cases e : i = k
                · subst e; exact HOKK.out
                · exact HA.out i h1 h2 (by omega), HBA.out.drew⟩
              case measure => simp [intOf]; omega
          · have e0 : (z.kind != 0) = true := by simpa using h0
            have e1 : (z.kind != y.kind) = false := by
              have : z.kind = y.kind := Classical.byContradiction fun h => hbad ⟨h0, h⟩
              simp [this]
            clear hA hb ba hbad hz hy h0
            go_wp2_with fail
            go_region
            all_goals
              go_wp2_with fail
              go_roundw
              case rel => exact ⟨k + 1, by omega, by go_num, fun i h1 h2 h3 => by
                by_cases e : i = k
                · subst e; exact HOKK.out
                · exact HA.out i h1 h2 (by omega), HBA.out.drew⟩
              case measure => simp [intOf]; omega
      · have g1 : decide ((k : Int) < (vs.length : Int)) = false := decide_eq_false (by omega)
        have HA := Lib.hid hA
        clear hA hb ba hy
        go_wp2_with fail
        go_region
        all_goals
          go_wp2_with fail
          go_roundw
          case rel => exact ⟨k + 1, by omega, by go_num, fun i h1 h2 h3 => HA.out i h1 h2 (by omega), HBA.out.drew⟩
          case measure => simp [intOf]; omega
    · have hlti : ¬ (k : Int) < (l.length : Int) := by omega
      have HP := Lib.hid (show kindsP l vs from fun i h1 h2 => hA i h1 h2 (by omega))
      have HB := Lib.hid hb
      clear hA hb
      go_wp2_with fail
      go_ret
      exact ⟨⟨true, rfl, fun _ => HP.out⟩, HB.out⟩
end Go.Proofs.YtchjckdjkecjnaaGreatDoor.Ev
namespace Go.Proofs.YtchjckdjkecjnaaGreatDoor.Ev
open Go.RowKit
open Ex Lx Va Ty
set_option linter.unusedVariables false
set_option linter.unusedSimpArgs false
theorem typed_kd (s : Sc) (v : En) (t : T) (hnums : t.row.nums) (ha : v.attrs = s.attrs) (hn : v.names = s.fields) (h1 : kindsP s.attrs v.vals) (h2 : kindsP s.fields v.fields) (h : (ofM s t).2 = 0) : ((evM v t).2 = 0 ∧ (evM v t).1.kind = (ofM s t).1.kind) ∨ four (evM v t).2 := by
  have hp : (printM t).2 = 0 := by
    by_cases hp : (printM t).2 = 0
    · exact hp
    · unfold ofM at h
      rw [if_neg hp] at h
      exact absurd h hp
  have ho : ofM s t = tyT s t := by unfold ofM; rw [if_pos hp]
  have hv : evM v t = evT v t := by unfold evM; rw [if_pos hp]
  rw [ho] at h ⊢
  rw [hv]
  have hrow : tyF s t.row = ([(tyT s t).1], 0) := by
    show tyF s (.cons t.op t.num t.text t.args .nil) = _
    rw [tyF_cons]
    have e : tyT s ⟨t.op, t.num, t.text, t.args⟩ = tyT s t := rfl
    rw [e, if_pos h]
    simp [tyF]
  have hk := ev_kds s v ⟨ha, hn, h1, h2⟩ t.row (okE_of _ (print_okF t hnums hp)) (by rw [hrow])
  rw [hrow] at hk
  have hl : evL v t.row = [evT v t] := rfl
  rw [hl] at hk
  exact hk.1
end Go.Proofs.YtchjckdjkecjnaaGreatDoor.Ev
namespace Go.Proofs.YtchjckdjkecjnaaGreatDoor.Ev
open Go.RowKit
open Ex Lx Va Ty
set_option linter.unusedVariables false
set_option linter.unusedSimpArgs false
structure TyV (s : Sc) (pe pa pf : Option Addr) (ce ca cf : Nat) (t : T) (p : Option Addr) (c : Nat) (x0 x1 x2 x3 : Value) (H : Nat) (W : World) : Prop where
  s : W.heap[H]? = some (.cells #[.slice pe s.enums.length ce, .slice pa s.attrs.length ca, .slice pf s.fields.length cf] 25 (0, 0))
  e : Bx W (H + 1) (.int .i64 t.op) (.int .i64 t.num) (.string (S t.text)) (.slice p t.args.len c)
  v : EC W (H + 1 + 1) x0 x1 x2 x3
section
variable {s : Sc} {pe pa pf : Option Addr} {ce ca cf : Nat} {t : T} {p : Option Addr} {c : Nat} {x0 x1 x2 x3 : Value} {H : Nat} {W W' : World}
theorem TyV.later (h : TyV s pe pa pf ce ca cf t p c x0 x1 x2 x3 H W) (k : Below W.heap.size W W') : TyV s pe pa pf ce ca cf t p c x0 x1 x2 x3 H W' :=
  ⟨(k.block H (by have := h.v.lt; omega)).trans h.s, laterE h.e k, h.v.at_ k h.v.lt⟩
theorem TyV.s0 (h : TyV s pe pa pf ce ca cf t p c x0 x1 x2 x3 H W) : W.cell? ⟨H, 0, none⟩ = some (.slice pe s.enums.length ce) := cell_of_row W H 0 _ _ (0, 0) h.s
theorem TyV.s1 (h : TyV s pe pa pf ce ca cf t p c x0 x1 x2 x3 H W) : W.cell? ⟨H, 1, none⟩ = some (.slice pa s.attrs.length ca) := cell_of_row W H 1 _ _ (0, 0) h.s
theorem TyV.s2 (h : TyV s pe pa pf ce ca cf t p c x0 x1 x2 x3 H W) : W.cell? ⟨H, 2, none⟩ = some (.slice pf s.fields.length cf) := cell_of_row W H 2 _ _ (0, 0) h.s
theorem TyV.set (h : TyV s pe pa pf ce ca cf t p c x0 x1 x2 x3 H W) (y0 y2 : Value) : TyV s pe pa pf ce ca cf t p c y0 x1 y2 x3 H ((W.setCell ⟨H + 1 + 1, 0, none⟩ y0).setCell ⟨H + 1 + 1, 2, none⟩ y2) := by
  refine ⟨?_, ?_, heap_setCell_same _ (H + 1 + 1) 2 _ _ _ (heap_setCell_same W (H + 1 + 1) 0 _ _ _ h.v)⟩
  · rw [heap_setCell_other _ ⟨H + 1 + 1, 2, none⟩ H _ (by simp; omega), heap_setCell_other _ ⟨H + 1 + 1, 0, none⟩ H _ (by simp; omega)]; exact h.s
  · exact bx_othE (bx_othE h.e (H + 1 + 1) 0 y0 (by omega)) (H + 1 + 1) 2 y2 (by omega)
theorem TyV.setR (h : TyV s pe pa pf ce ca cf t p c x0 x1 x2 x3 H W) (y0 y2 : Value) : TyV s pe pa pf ce ca cf t p c y0 x1 y2 x3 H ((W.setCell ⟨H + 1 + 1, 2, none⟩ y2).setCell ⟨H + 1 + 1, 0, none⟩ y0) := by
  refine ⟨?_, ?_, heap_setCell_same _ (H + 1 + 1) 0 _ _ _ (heap_setCell_same W (H + 1 + 1) 2 _ _ _ h.v)⟩
  · rw [heap_setCell_other _ ⟨H + 1 + 1, 0, none⟩ H _ (by simp; omega), heap_setCell_other _ ⟨H + 1 + 1, 2, none⟩ H _ (by simp; omega)]; exact h.s
  · exact bx_othE (bx_othE h.e (H + 1 + 1) 2 y2 (by omega)) (H + 1 + 1) 0 y0 (by omega)
theorem TyV.drew (h : TyV s pe pa pf ce ca cf t p c x0 x1 x2 x3 H W) : TyV s pe pa pf ce ca cf t p c x0 x1 x2 x3 H W.drew := h.later (Below.refl _ _).drew
end
end Go.Proofs.YtchjckdjkecjnaaGreatDoor.Ev
namespace Go.Proofs.YtchjckdjkecjnaaGreatDoor.Ev
open Go.RowKit
open Ex Lx Va Ty
set_option linter.unusedVariables false
set_option linter.unusedSimpArgs false
set_option maxRecDepth 100000 in
set_option maxHeartbeats 8000000 in
theorem typed_1 (s : Sc) (pe pa pf : Option Addr) (ce ca cf : Nat) (t : T) (p : Option Addr) (c : Nat) (v : En) (r : Rows) (w : World) (hs : ScAt w pe pa pf s) (hsf : ScFit s) (hfa : FAt w (fun _ => True) t.args p) (hfit : t.row.fits) (hnums : t.row.nums) (hen : EnAt w r.pa r.pv r.pn r.pf v) (hB : EnBig v) (htab : Va.Tab w) (hC : ConsAt w) (h1 : smallV ⟨s.attrs, v.vals, s.fields, v.fields⟩ = false) :
    Calls Tryz.prog 5 #[.agg #[.slice pe s.enums.length ce, .slice pa s.attrs.length ca, .slice pf s.fields.length cf], .agg #[.int .i64 t.op, .int .i64 t.num, .string (S t.text), .slice p t.args.len c], .agg (envC v r)] w fun e w' => e = .returned (.bool true) ∧ Below w.heap.size w w' := by
  obtain ⟨qa, qv, qn, qf, da, dv, dn, df⟩ := r
  have hen : EnAt w qa qv qn qf v := hen
  have hb1 := (((Below.refl w.heap.size w).alloc (Nat.le_refl _) (.cells #[.slice pe s.enums.length ce, .slice pa s.attrs.length ca, .slice pf s.fields.length cf] 25)).alloc (by simp) (.cells #[.int .i64 t.op, .int .i64 t.num, .string (S t.text), .slice p t.args.len c] 28)).alloc (by simp; omega) (.cells #[.slice qa v.attrs.length da, .slice qv v.vals.length dv, .slice qn v.names.length dn, .slice qf v.fields.length df] 48)
  have AW := Lib.hid (fun W (k : Below w.heap.size w W) => awake_any W (htab.below k) (hC.keep (Kept.of_below (ok := fun _ => True) k) trivial))
  have CK := Lib.hid (fun W (k : Below w.heap.size w W) => rck_any t hfit 0 p c W (by omega) (hfa.keep (Kept.of_below k)))
  have hbig : EnBig ⟨s.attrs, v.vals, s.fields, v.fields⟩ := ⟨hsf.attrs, hB.vals, hsf.fields, hB.fields, hB.ok, hB.okf⟩
  have EN := Lib.hid (fun W (k : Below w.heap.size w W) => show EnAt W pa qv pf qf ⟨s.attrs, v.vals, s.fields, v.fields⟩ from ⟨hs.attrs.later k, fun i hi => by
    obtain ⟨b, off, e, hv, hl⟩ := (hen.vals.below k) i hi
    obtain ⟨q, c, h0, h1, h2, h3, h4⟩ := hv
    exact ⟨b, off, e, ⟨q, c, h0, h1, h2, h3, h4.mono fun g hg => Nat.lt_of_lt_of_le hg k.size⟩, hl⟩, hs.fields.later k, fun i hi => by
    obtain ⟨b, off, e, hv, hl⟩ := (hen.fields.below k) i hi
    obtain ⟨q, c, h0, h1, h2, h3, h4⟩ := hv
    exact ⟨b, off, e, ⟨q, c, h0, h1, h2, h3, h4.mono fun g hg => Nat.lt_of_lt_of_le hg k.size⟩, hl⟩⟩)
  have S1 := Lib.hid (fun W (k : Below w.heap.size w W) => Ev.small_any ⟨s.attrs, v.vals, s.fields, v.fields⟩ ⟨pa, qv, pf, qf, ca, dv, cf, df⟩ W (EN.out W k) hbig)
  have S2 := Lib.hid (fun W (k : Below w.heap.size w W) => Ty.small_any s pe pa pf ce ca cf W (hs.later k).enums hsf.enums hsf.attrs hsf.fields hsf.syms)
  have RO := Lib.hid (fun W (k : Below w.heap.size w W) => rOf_any s pe pa pf ce ca cf hsf t hfit hnums p c W (hs.later k) (hfa.keep (Kept.of_below k)))
  have K1 := Lib.hid (fun W (k : Below w.heap.size w W) => kinds_any _ s.attrs v.vals pa qv ca dv W (EN.out W k).attrs hsf.attrs (EN.out W k).vals hB.vals)
  have K2 := Lib.hid (fun W (k : Below w.heap.size w W) => kinds_any _ s.fields v.fields pf qf cf df W (EN.out W k).names hsf.fields (EN.out W k).fields hB.fields)
  have OF := Lib.hid (fun (hsm : smallV ⟨s.attrs, v.vals, s.fields, v.fields⟩ = true) W (k : Below w.heap.size w W) => evOf_any ⟨s.attrs, v.vals, s.fields, v.fields⟩ ⟨pa, qv, pf, qf, ca, dv, cf, df⟩ (hbig.fit hsm) t hfit hnums p c W (EN.out W k) (hfa.keep (Kept.of_below k)) (htab.below k) (hC.keep (Kept.of_below (ok := fun _ => True) k) trivial))
  have TK := Lib.hid (fun h1 h2 h => typed_kd s ⟨s.attrs, v.vals, s.fields, v.fields⟩ t hnums rfl rfl h1 h2 h)
  have hv1 : TyV s pe pa pf ce ca cf t p c (.slice qa v.attrs.length da) (.slice qv v.vals.length dv) (.slice qn v.names.length dn) (.slice qf v.fields.length df) w.heap.size (((w.alloc (.cells #[.slice pe s.enums.length ce, .slice pa s.attrs.length ca, .slice pf s.fields.length cf] 25)).alloc (.cells #[.int .i64 t.op, .int .i64 t.num, .string (S t.text), .slice p t.args.len c] 28)).alloc (.cells #[.slice qa v.attrs.length da, .slice qv v.vals.length dv, .slice qn v.names.length dn, .slice qf v.fields.length df] 48)) := ⟨(((Below.refl _ _).alloc (Nat.le_refl _) _).block _ (by simp; omega)).trans ((((Below.refl _ _).alloc (Nat.le_refl _) _).block _ (by simp)).trans (heap_alloc_new w _)), laterE (new_box (w.alloc (.cells #[.slice pe s.enums.length ce, .slice pa s.attrs.length ca, .slice pf s.fields.length cf] 25)) _ _ _ (by simp)) ((Below.refl _ _).alloc (Nat.le_refl _) _), new_box _ _ _ _ (by simp)⟩
  have B1 := Lib.hid hb1
  have V1 := Lib.hid hv1
  clear hb1 hv1 hs hsf hfa hen hB htab hC hbig
  rw [h1] at S1
  clear h1
  unfold envC at *
  dsimp only at *
  go_enter Tryz.func5, Tryz.ntmps5
  go_wp2_with fail
  refine (AW.out _ B1.out).mono ?_
  rintro e w2 ⟨rfl, b2⟩
  have B2 := Lib.hid (B1.out.trans (b2.mono B1.out.size))
  have hv2 := V1.out.later b2
  have V2 := Lib.hid hv2
  have p0 := hv2.e.c0
  have p1 := hv2.e.c1
  have p2 := hv2.e.c2
  have p3 := hv2.e.c3
  clear b2 hv2
  go_wp2_with fail
  refine (CK.out w2 B2.out).mono ?_
  rintro e w3 ⟨rfl, b3⟩
  have B3 := Lib.hid (B2.out.trans (b3.mono B2.out.size))
  have hv3 := V2.out.later b3
  have V3 := Lib.hid hv3
  have s1 := hv3.s1
  have s2 := hv3.s2
  have fz := hv3.v.fz
  have r0 := hv3.v.c0
  have r1 := hv3.v.c1
  have r2 := hv3.v.c2
  have r3 := hv3.v.c3
  clear b3 hv3 p0 p1 p2 p3
  go_wp2_with fail
  go_region
  all_goals
    go_wp2_with fail
    refine (S1.out _ ((B3.out.drew.setCell (p := ⟨w.heap.size + 1 + 1, _, none⟩) (by show w.heap.size ≤ w.heap.size + 1 + 1; omega) _).setCell (p := ⟨w.heap.size + 1 + 1, _, none⟩) (by show w.heap.size ≤ w.heap.size + 1 + 1; omega) _)).mono ?_
    rintro e w5 ⟨rfl, b5⟩
    have V5 := Lib.hid (TyV.later (show TyV s pe pa pf ce ca cf t p c (.slice pa s.attrs.length ca) (.slice qv v.vals.length dv) (.slice pf s.fields.length cf) (.slice qf v.fields.length df) w.heap.size _ by first | exact V3.out.drew.set _ _ | exact V3.out.drew.setR _ _) b5)
    have B5 := Lib.hid (((B3.out.drew.setCell (p := ⟨w.heap.size + 1 + 1, _, none⟩) (by show w.heap.size ≤ w.heap.size + 1 + 1; omega) _).setCell (p := ⟨w.heap.size + 1 + 1, _, none⟩) (by show w.heap.size ≤ w.heap.size + 1 + 1; omega) _).trans (b5.mono (by simp; exact B3.out.size)))
    clear b5 r0 r1 r2 r3 s1 s2 fz
    go_wp2_with fail
    refine (AW.out _ B5.out).mono ?_
    rintro e w9 ⟨rfl, b9⟩
    have B9 := Lib.hid (B5.out.trans (b9.mono B5.out.size))
    clear b9
    go_wp2_with fail
    go_ret
    exact ⟨rfl, B9.out⟩
end Go.Proofs.YtchjckdjkecjnaaGreatDoor.Ev
namespace Go.Proofs.YtchjckdjkecjnaaGreatDoor.Ev
open Go.RowKit
open Ex Lx Va Ty
set_option linter.unusedVariables false
set_option linter.unusedSimpArgs false
set_option maxRecDepth 100000 in
set_option maxHeartbeats 8000000 in
theorem typed_2 (s : Sc) (pe pa pf : Option Addr) (ce ca cf : Nat) (t : T) (p : Option Addr) (c : Nat) (v : En) (r : Rows) (w : World) (hs : ScAt w pe pa pf s) (hsf : ScFit s) (hfa : FAt w (fun _ => True) t.args p) (hfit : t.row.fits) (hnums : t.row.nums) (hen : EnAt w r.pa r.pv r.pn r.pf v) (hB : EnBig v) (htab : Va.Tab w) (hC : ConsAt w) (h1 : smallV ⟨s.attrs, v.vals, s.fields, v.fields⟩ = true) (h2 : smallS s = false) :
    Calls Tryz.prog 5 #[.agg #[.slice pe s.enums.length ce, .slice pa s.attrs.length ca, .slice pf s.fields.length cf], .agg #[.int .i64 t.op, .int .i64 t.num, .string (S t.text), .slice p t.args.len c], .agg (envC v r)] w fun e w' => e = .returned (.bool true) ∧ Below w.heap.size w w' := by
  obtain ⟨qa, qv, qn, qf, da, dv, dn, df⟩ := r
  have hen : EnAt w qa qv qn qf v := hen
  have hb1 := (((Below.refl w.heap.size w).alloc (Nat.le_refl _) (.cells #[.slice pe s.enums.length ce, .slice pa s.attrs.length ca, .slice pf s.fields.length cf] 25)).alloc (by simp) (.cells #[.int .i64 t.op, .int .i64 t.num, .string (S t.text), .slice p t.args.len c] 28)).alloc (by simp; omega) (.cells #[.slice qa v.attrs.length da, .slice qv v.vals.length dv, .slice qn v.names.length dn, .slice qf v.fields.length df] 48)
  have AW := Lib.hid (fun W (k : Below w.heap.size w W) => awake_any W (htab.below k) (hC.keep (Kept.of_below (ok := fun _ => True) k) trivial))
  have CK := Lib.hid (fun W (k : Below w.heap.size w W) => rck_any t hfit 0 p c W (by omega) (hfa.keep (Kept.of_below k)))
  have hbig : EnBig ⟨s.attrs, v.vals, s.fields, v.fields⟩ := ⟨hsf.attrs, hB.vals, hsf.fields, hB.fields, hB.ok, hB.okf⟩
  have EN := Lib.hid (fun W (k : Below w.heap.size w W) => show EnAt W pa qv pf qf ⟨s.attrs, v.vals, s.fields, v.fields⟩ from ⟨hs.attrs.later k, fun i hi => by
    obtain ⟨b, off, e, hv, hl⟩ := (hen.vals.below k) i hi
    obtain ⟨q, c, h0, h1, h2, h3, h4⟩ := hv
    exact ⟨b, off, e, ⟨q, c, h0, h1, h2, h3, h4.mono fun g hg => Nat.lt_of_lt_of_le hg k.size⟩, hl⟩, hs.fields.later k, fun i hi => by
    obtain ⟨b, off, e, hv, hl⟩ := (hen.fields.below k) i hi
    obtain ⟨q, c, h0, h1, h2, h3, h4⟩ := hv
    exact ⟨b, off, e, ⟨q, c, h0, h1, h2, h3, h4.mono fun g hg => Nat.lt_of_lt_of_le hg k.size⟩, hl⟩⟩)
  have S1 := Lib.hid (fun W (k : Below w.heap.size w W) => Ev.small_any ⟨s.attrs, v.vals, s.fields, v.fields⟩ ⟨pa, qv, pf, qf, ca, dv, cf, df⟩ W (EN.out W k) hbig)
  have S2 := Lib.hid (fun W (k : Below w.heap.size w W) => Ty.small_any s pe pa pf ce ca cf W (hs.later k).enums hsf.enums hsf.attrs hsf.fields hsf.syms)
  have RO := Lib.hid (fun W (k : Below w.heap.size w W) => rOf_any s pe pa pf ce ca cf hsf t hfit hnums p c W (hs.later k) (hfa.keep (Kept.of_below k)))
  have K1 := Lib.hid (fun W (k : Below w.heap.size w W) => kinds_any _ s.attrs v.vals pa qv ca dv W (EN.out W k).attrs hsf.attrs (EN.out W k).vals hB.vals)
  have K2 := Lib.hid (fun W (k : Below w.heap.size w W) => kinds_any _ s.fields v.fields pf qf cf df W (EN.out W k).names hsf.fields (EN.out W k).fields hB.fields)
  have OF := Lib.hid (fun (hsm : smallV ⟨s.attrs, v.vals, s.fields, v.fields⟩ = true) W (k : Below w.heap.size w W) => evOf_any ⟨s.attrs, v.vals, s.fields, v.fields⟩ ⟨pa, qv, pf, qf, ca, dv, cf, df⟩ (hbig.fit hsm) t hfit hnums p c W (EN.out W k) (hfa.keep (Kept.of_below k)) (htab.below k) (hC.keep (Kept.of_below (ok := fun _ => True) k) trivial))
  have TK := Lib.hid (fun h1 h2 h => typed_kd s ⟨s.attrs, v.vals, s.fields, v.fields⟩ t hnums rfl rfl h1 h2 h)
  have hv1 : TyV s pe pa pf ce ca cf t p c (.slice qa v.attrs.length da) (.slice qv v.vals.length dv) (.slice qn v.names.length dn) (.slice qf v.fields.length df) w.heap.size (((w.alloc (.cells #[.slice pe s.enums.length ce, .slice pa s.attrs.length ca, .slice pf s.fields.length cf] 25)).alloc (.cells #[.int .i64 t.op, .int .i64 t.num, .string (S t.text), .slice p t.args.len c] 28)).alloc (.cells #[.slice qa v.attrs.length da, .slice qv v.vals.length dv, .slice qn v.names.length dn, .slice qf v.fields.length df] 48)) := ⟨(((Below.refl _ _).alloc (Nat.le_refl _) _).block _ (by simp; omega)).trans ((((Below.refl _ _).alloc (Nat.le_refl _) _).block _ (by simp)).trans (heap_alloc_new w _)), laterE (new_box (w.alloc (.cells #[.slice pe s.enums.length ce, .slice pa s.attrs.length ca, .slice pf s.fields.length cf] 25)) _ _ _ (by simp)) ((Below.refl _ _).alloc (Nat.le_refl _) _), new_box _ _ _ _ (by simp)⟩
  have B1 := Lib.hid hb1
  have V1 := Lib.hid hv1
  clear hb1 hv1 hs hsf hfa hen hB htab hC hbig
  rw [h1] at S1
  rw [h2] at S2
  clear h1 h2
  unfold envC at *
  dsimp only at *
  go_enter Tryz.func5, Tryz.ntmps5
  go_wp2_with fail
  refine (AW.out _ B1.out).mono ?_
  rintro e w2 ⟨rfl, b2⟩
  have B2 := Lib.hid (B1.out.trans (b2.mono B1.out.size))
  have hv2 := V1.out.later b2
  have V2 := Lib.hid hv2
  have p0 := hv2.e.c0
  have p1 := hv2.e.c1
  have p2 := hv2.e.c2
  have p3 := hv2.e.c3
  clear b2 hv2
  go_wp2_with fail
  refine (CK.out w2 B2.out).mono ?_
  rintro e w3 ⟨rfl, b3⟩
  have B3 := Lib.hid (B2.out.trans (b3.mono B2.out.size))
  have hv3 := V2.out.later b3
  have V3 := Lib.hid hv3
  have s1 := hv3.s1
  have s2 := hv3.s2
  have fz := hv3.v.fz
  have r0 := hv3.v.c0
  have r1 := hv3.v.c1
  have r2 := hv3.v.c2
  have r3 := hv3.v.c3
  clear b3 hv3 p0 p1 p2 p3
  go_wp2_with fail
  go_region
  all_goals
    go_wp2_with fail
    refine (S1.out _ ((B3.out.drew.setCell (p := ⟨w.heap.size + 1 + 1, _, none⟩) (by show w.heap.size ≤ w.heap.size + 1 + 1; omega) _).setCell (p := ⟨w.heap.size + 1 + 1, _, none⟩) (by show w.heap.size ≤ w.heap.size + 1 + 1; omega) _)).mono ?_
    rintro e w5 ⟨rfl, b5⟩
    have V5 := Lib.hid (TyV.later (show TyV s pe pa pf ce ca cf t p c (.slice pa s.attrs.length ca) (.slice qv v.vals.length dv) (.slice pf s.fields.length cf) (.slice qf v.fields.length df) w.heap.size _ by first | exact V3.out.drew.set _ _ | exact V3.out.drew.setR _ _) b5)
    have B5 := Lib.hid (((B3.out.drew.setCell (p := ⟨w.heap.size + 1 + 1, _, none⟩) (by show w.heap.size ≤ w.heap.size + 1 + 1; omega) _).setCell (p := ⟨w.heap.size + 1 + 1, _, none⟩) (by show w.heap.size ≤ w.heap.size + 1 + 1; omega) _).trans (b5.mono (by simp; exact B3.out.size)))
    clear b5 r0 r1 r2 r3 s1 s2 fz
    have hv5 := V5.out
    have s0 := hv5.s0
    have s1 := hv5.s1
    have s2 := hv5.s2
    clear hv5
    go_wp2_with fail
    refine (S2.out _ B5.out).mono ?_
    rintro e w6 ⟨rfl, b6⟩
    have V6 := Lib.hid (V5.out.later b6)
    have B6 := Lib.hid (B5.out.trans (b6.mono B5.out.size))
    clear b6 s0 s1 s2
    go_wp2_with fail
    refine (AW.out _ B6.out).mono ?_
    rintro e w9 ⟨rfl, b9⟩
    have B9 := Lib.hid (B6.out.trans (b9.mono B6.out.size))
    clear b9
    go_wp2_with fail
    go_ret
    exact ⟨rfl, B9.out⟩
end Go.Proofs.YtchjckdjkecjnaaGreatDoor.Ev
namespace Go.Proofs.YtchjckdjkecjnaaGreatDoor.Ev
open Go.RowKit
open Ex Lx Va Ty
set_option linter.unusedVariables false
set_option linter.unusedSimpArgs false
set_option maxRecDepth 100000 in
set_option maxHeartbeats 8000000 in
theorem typed_3 (s : Sc) (pe pa pf : Option Addr) (ce ca cf : Nat) (t : T) (p : Option Addr) (c : Nat) (v : En) (r : Rows) (w : World) (hs : ScAt w pe pa pf s) (hsf : ScFit s) (hfa : FAt w (fun _ => True) t.args p) (hfit : t.row.fits) (hnums : t.row.nums) (hen : EnAt w r.pa r.pv r.pn r.pf v) (hB : EnBig v) (htab : Va.Tab w) (hC : ConsAt w) (h1 : smallV ⟨s.attrs, v.vals, s.fields, v.fields⟩ = true) (h2 : smallS s = true) (h3 : (t.chk 0).1 ≠ 0) :
    Calls Tryz.prog 5 #[.agg #[.slice pe s.enums.length ce, .slice pa s.attrs.length ca, .slice pf s.fields.length cf], .agg #[.int .i64 t.op, .int .i64 t.num, .string (S t.text), .slice p t.args.len c], .agg (envC v r)] w fun e w' => e = .returned (.bool true) ∧ Below w.heap.size w w' := by
  obtain ⟨qa, qv, qn, qf, da, dv, dn, df⟩ := r
  have hen : EnAt w qa qv qn qf v := hen
  have hb1 := (((Below.refl w.heap.size w).alloc (Nat.le_refl _) (.cells #[.slice pe s.enums.length ce, .slice pa s.attrs.length ca, .slice pf s.fields.length cf] 25)).alloc (by simp) (.cells #[.int .i64 t.op, .int .i64 t.num, .string (S t.text), .slice p t.args.len c] 28)).alloc (by simp; omega) (.cells #[.slice qa v.attrs.length da, .slice qv v.vals.length dv, .slice qn v.names.length dn, .slice qf v.fields.length df] 48)
  have AW := Lib.hid (fun W (k : Below w.heap.size w W) => awake_any W (htab.below k) (hC.keep (Kept.of_below (ok := fun _ => True) k) trivial))
  have CK := Lib.hid (fun W (k : Below w.heap.size w W) => rck_any t hfit 0 p c W (by omega) (hfa.keep (Kept.of_below k)))
  have hbig : EnBig ⟨s.attrs, v.vals, s.fields, v.fields⟩ := ⟨hsf.attrs, hB.vals, hsf.fields, hB.fields, hB.ok, hB.okf⟩
  have EN := Lib.hid (fun W (k : Below w.heap.size w W) => show EnAt W pa qv pf qf ⟨s.attrs, v.vals, s.fields, v.fields⟩ from ⟨hs.attrs.later k, fun i hi => by
    obtain ⟨b, off, e, hv, hl⟩ := (hen.vals.below k) i hi
    obtain ⟨q, c, h0, h1, h2, h3, h4⟩ := hv
    exact ⟨b, off, e, ⟨q, c, h0, h1, h2, h3, h4.mono fun g hg => Nat.lt_of_lt_of_le hg k.size⟩, hl⟩, hs.fields.later k, fun i hi => by
    obtain ⟨b, off, e, hv, hl⟩ := (hen.fields.below k) i hi
    obtain ⟨q, c, h0, h1, h2, h3, h4⟩ := hv
    exact ⟨b, off, e, ⟨q, c, h0, h1, h2, h3, h4.mono fun g hg => Nat.lt_of_lt_of_le hg k.size⟩, hl⟩⟩)
  have S1 := Lib.hid (fun W (k : Below w.heap.size w W) => Ev.small_any ⟨s.attrs, v.vals, s.fields, v.fields⟩ ⟨pa, qv, pf, qf, ca, dv, cf, df⟩ W (EN.out W k) hbig)
  have S2 := Lib.hid (fun W (k : Below w.heap.size w W) => Ty.small_any s pe pa pf ce ca cf W (hs.later k).enums hsf.enums hsf.attrs hsf.fields hsf.syms)
  have RO := Lib.hid (fun W (k : Below w.heap.size w W) => rOf_any s pe pa pf ce ca cf hsf t hfit hnums p c W (hs.later k) (hfa.keep (Kept.of_below k)))
  have K1 := Lib.hid (fun W (k : Below w.heap.size w W) => kinds_any _ s.attrs v.vals pa qv ca dv W (EN.out W k).attrs hsf.attrs (EN.out W k).vals hB.vals)
  have K2 := Lib.hid (fun W (k : Below w.heap.size w W) => kinds_any _ s.fields v.fields pf qf cf df W (EN.out W k).names hsf.fields (EN.out W k).fields hB.fields)
  have OF := Lib.hid (fun (hsm : smallV ⟨s.attrs, v.vals, s.fields, v.fields⟩ = true) W (k : Below w.heap.size w W) => evOf_any ⟨s.attrs, v.vals, s.fields, v.fields⟩ ⟨pa, qv, pf, qf, ca, dv, cf, df⟩ (hbig.fit hsm) t hfit hnums p c W (EN.out W k) (hfa.keep (Kept.of_below k)) (htab.below k) (hC.keep (Kept.of_below (ok := fun _ => True) k) trivial))
  have TK := Lib.hid (fun h1 h2 h => typed_kd s ⟨s.attrs, v.vals, s.fields, v.fields⟩ t hnums rfl rfl h1 h2 h)
  have hv1 : TyV s pe pa pf ce ca cf t p c (.slice qa v.attrs.length da) (.slice qv v.vals.length dv) (.slice qn v.names.length dn) (.slice qf v.fields.length df) w.heap.size (((w.alloc (.cells #[.slice pe s.enums.length ce, .slice pa s.attrs.length ca, .slice pf s.fields.length cf] 25)).alloc (.cells #[.int .i64 t.op, .int .i64 t.num, .string (S t.text), .slice p t.args.len c] 28)).alloc (.cells #[.slice qa v.attrs.length da, .slice qv v.vals.length dv, .slice qn v.names.length dn, .slice qf v.fields.length df] 48)) := ⟨(((Below.refl _ _).alloc (Nat.le_refl _) _).block _ (by simp; omega)).trans ((((Below.refl _ _).alloc (Nat.le_refl _) _).block _ (by simp)).trans (heap_alloc_new w _)), laterE (new_box (w.alloc (.cells #[.slice pe s.enums.length ce, .slice pa s.attrs.length ca, .slice pf s.fields.length cf] 25)) _ _ _ (by simp)) ((Below.refl _ _).alloc (Nat.le_refl _) _), new_box _ _ _ _ (by simp)⟩
  have B1 := Lib.hid hb1
  have V1 := Lib.hid hv1
  clear hb1 hv1 hs hsf hfa hen hB htab hC hbig
  rw [h1] at S1
  rw [h2] at S2
  clear h1 h2
  generalize (t.chk 0).1 = ck at *
  generalize (t.chk 0).2 = cn at *
  have hck : ((ck : Int) != 0) = true := by simp; exact h3
  clear h3
  unfold envC at *
  dsimp only at *
  go_enter Tryz.func5, Tryz.ntmps5
  go_wp2_with fail
  refine (AW.out _ B1.out).mono ?_
  rintro e w2 ⟨rfl, b2⟩
  have B2 := Lib.hid (B1.out.trans (b2.mono B1.out.size))
  have hv2 := V1.out.later b2
  have V2 := Lib.hid hv2
  have p0 := hv2.e.c0
  have p1 := hv2.e.c1
  have p2 := hv2.e.c2
  have p3 := hv2.e.c3
  clear b2 hv2
  go_wp2_with fail
  refine (CK.out w2 B2.out).mono ?_
  rintro e w3 ⟨rfl, b3⟩
  have B3 := Lib.hid (B2.out.trans (b3.mono B2.out.size))
  have hv3 := V2.out.later b3
  have V3 := Lib.hid hv3
  have s1 := hv3.s1
  have s2 := hv3.s2
  have fz := hv3.v.fz
  have r0 := hv3.v.c0
  have r1 := hv3.v.c1
  have r2 := hv3.v.c2
  have r3 := hv3.v.c3
  clear b3 hv3 p0 p1 p2 p3
  go_wp2_with fail
  go_region
  all_goals
    go_wp2_with fail
    refine (S1.out _ ((B3.out.drew.setCell (p := ⟨w.heap.size + 1 + 1, _, none⟩) (by show w.heap.size ≤ w.heap.size + 1 + 1; omega) _).setCell (p := ⟨w.heap.size + 1 + 1, _, none⟩) (by show w.heap.size ≤ w.heap.size + 1 + 1; omega) _)).mono ?_
    rintro e w5 ⟨rfl, b5⟩
    have V5 := Lib.hid (TyV.later (show TyV s pe pa pf ce ca cf t p c (.slice pa s.attrs.length ca) (.slice qv v.vals.length dv) (.slice pf s.fields.length cf) (.slice qf v.fields.length df) w.heap.size _ by first | exact V3.out.drew.set _ _ | exact V3.out.drew.setR _ _) b5)
    have B5 := Lib.hid (((B3.out.drew.setCell (p := ⟨w.heap.size + 1 + 1, _, none⟩) (by show w.heap.size ≤ w.heap.size + 1 + 1; omega) _).setCell (p := ⟨w.heap.size + 1 + 1, _, none⟩) (by show w.heap.size ≤ w.heap.size + 1 + 1; omega) _).trans (b5.mono (by simp; exact B3.out.size)))
    clear b5 r0 r1 r2 r3 s1 s2 fz
    have hv5 := V5.out
    have s0 := hv5.s0
    have s1 := hv5.s1
    have s2 := hv5.s2
    clear hv5
    go_wp2_with fail
    refine (S2.out _ B5.out).mono ?_
    rintro e w6 ⟨rfl, b6⟩
    have V6 := Lib.hid (V5.out.later b6)
    have B6 := Lib.hid (B5.out.trans (b6.mono B5.out.size))
    clear b6 s0 s1 s2
    go_wp2_with fail
    refine (AW.out _ B6.out).mono ?_
    rintro e w9 ⟨rfl, b9⟩
    have B9 := Lib.hid (B6.out.trans (b9.mono B6.out.size))
    clear b9
    go_wp2_with fail
    go_ret
    exact ⟨rfl, B9.out⟩
end Go.Proofs.YtchjckdjkecjnaaGreatDoor.Ev
namespace Go.Proofs.YtchjckdjkecjnaaGreatDoor.Ev
open Go.RowKit
open Ex Lx Va Ty
set_option linter.unusedVariables false
set_option linter.unusedSimpArgs false
set_option maxRecDepth 100000 in
set_option maxHeartbeats 8000000 in
theorem typed_4 (s : Sc) (pe pa pf : Option Addr) (ce ca cf : Nat) (t : T) (p : Option Addr) (c : Nat) (v : En) (r : Rows) (w : World) (hs : ScAt w pe pa pf s) (hsf : ScFit s) (hfa : FAt w (fun _ => True) t.args p) (hfit : t.row.fits) (hnums : t.row.nums) (hen : EnAt w r.pa r.pv r.pn r.pf v) (hB : EnBig v) (htab : Va.Tab w) (hC : ConsAt w) (h1 : smallV ⟨s.attrs, v.vals, s.fields, v.fields⟩ = true) (h2 : smallS s = true) (h3 : (t.chk 0).1 = 0) (h4 : (ofM s t).2 ≠ 0) :
    Calls Tryz.prog 5 #[.agg #[.slice pe s.enums.length ce, .slice pa s.attrs.length ca, .slice pf s.fields.length cf], .agg #[.int .i64 t.op, .int .i64 t.num, .string (S t.text), .slice p t.args.len c], .agg (envC v r)] w fun e w' => e = .returned (.bool true) ∧ Below w.heap.size w w' := by
  obtain ⟨qa, qv, qn, qf, da, dv, dn, df⟩ := r
  have hen : EnAt w qa qv qn qf v := hen
  have hb1 := (((Below.refl w.heap.size w).alloc (Nat.le_refl _) (.cells #[.slice pe s.enums.length ce, .slice pa s.attrs.length ca, .slice pf s.fields.length cf] 25)).alloc (by simp) (.cells #[.int .i64 t.op, .int .i64 t.num, .string (S t.text), .slice p t.args.len c] 28)).alloc (by simp; omega) (.cells #[.slice qa v.attrs.length da, .slice qv v.vals.length dv, .slice qn v.names.length dn, .slice qf v.fields.length df] 48)
  have AW := Lib.hid (fun W (k : Below w.heap.size w W) => awake_any W (htab.below k) (hC.keep (Kept.of_below (ok := fun _ => True) k) trivial))
  have CK := Lib.hid (fun W (k : Below w.heap.size w W) => rck_any t hfit 0 p c W (by omega) (hfa.keep (Kept.of_below k)))
  have hbig : EnBig ⟨s.attrs, v.vals, s.fields, v.fields⟩ := ⟨hsf.attrs, hB.vals, hsf.fields, hB.fields, hB.ok, hB.okf⟩
  have EN := Lib.hid (fun W (k : Below w.heap.size w W) => show EnAt W pa qv pf qf ⟨s.attrs, v.vals, s.fields, v.fields⟩ from ⟨hs.attrs.later k, fun i hi => by
    obtain ⟨b, off, e, hv, hl⟩ := (hen.vals.below k) i hi
    obtain ⟨q, c, h0, h1, h2, h3, h4⟩ := hv
    exact ⟨b, off, e, ⟨q, c, h0, h1, h2, h3, h4.mono fun g hg => Nat.lt_of_lt_of_le hg k.size⟩, hl⟩, hs.fields.later k, fun i hi => by
    obtain ⟨b, off, e, hv, hl⟩ := (hen.fields.below k) i hi
    obtain ⟨q, c, h0, h1, h2, h3, h4⟩ := hv
    exact ⟨b, off, e, ⟨q, c, h0, h1, h2, h3, h4.mono fun g hg => Nat.lt_of_lt_of_le hg k.size⟩, hl⟩⟩)
  have S1 := Lib.hid (fun W (k : Below w.heap.size w W) => Ev.small_any ⟨s.attrs, v.vals, s.fields, v.fields⟩ ⟨pa, qv, pf, qf, ca, dv, cf, df⟩ W (EN.out W k) hbig)
  have S2 := Lib.hid (fun W (k : Below w.heap.size w W) => Ty.small_any s pe pa pf ce ca cf W (hs.later k).enums hsf.enums hsf.attrs hsf.fields hsf.syms)
  have RO := Lib.hid (fun W (k : Below w.heap.size w W) => rOf_any s pe pa pf ce ca cf hsf t hfit hnums p c W (hs.later k) (hfa.keep (Kept.of_below k)))
  have K1 := Lib.hid (fun W (k : Below w.heap.size w W) => kinds_any _ s.attrs v.vals pa qv ca dv W (EN.out W k).attrs hsf.attrs (EN.out W k).vals hB.vals)
  have K2 := Lib.hid (fun W (k : Below w.heap.size w W) => kinds_any _ s.fields v.fields pf qf cf df W (EN.out W k).names hsf.fields (EN.out W k).fields hB.fields)
  have OF := Lib.hid (fun (hsm : smallV ⟨s.attrs, v.vals, s.fields, v.fields⟩ = true) W (k : Below w.heap.size w W) => evOf_any ⟨s.attrs, v.vals, s.fields, v.fields⟩ ⟨pa, qv, pf, qf, ca, dv, cf, df⟩ (hbig.fit hsm) t hfit hnums p c W (EN.out W k) (hfa.keep (Kept.of_below k)) (htab.below k) (hC.keep (Kept.of_below (ok := fun _ => True) k) trivial))
  have TK := Lib.hid (fun h1 h2 h => typed_kd s ⟨s.attrs, v.vals, s.fields, v.fields⟩ t hnums rfl rfl h1 h2 h)
  have hv1 : TyV s pe pa pf ce ca cf t p c (.slice qa v.attrs.length da) (.slice qv v.vals.length dv) (.slice qn v.names.length dn) (.slice qf v.fields.length df) w.heap.size (((w.alloc (.cells #[.slice pe s.enums.length ce, .slice pa s.attrs.length ca, .slice pf s.fields.length cf] 25)).alloc (.cells #[.int .i64 t.op, .int .i64 t.num, .string (S t.text), .slice p t.args.len c] 28)).alloc (.cells #[.slice qa v.attrs.length da, .slice qv v.vals.length dv, .slice qn v.names.length dn, .slice qf v.fields.length df] 48)) := ⟨(((Below.refl _ _).alloc (Nat.le_refl _) _).block _ (by simp; omega)).trans ((((Below.refl _ _).alloc (Nat.le_refl _) _).block _ (by simp)).trans (heap_alloc_new w _)), laterE (new_box (w.alloc (.cells #[.slice pe s.enums.length ce, .slice pa s.attrs.length ca, .slice pf s.fields.length cf] 25)) _ _ _ (by simp)) ((Below.refl _ _).alloc (Nat.le_refl _) _), new_box _ _ _ _ (by simp)⟩
  have B1 := Lib.hid hb1
  have V1 := Lib.hid hv1
  clear hb1 hv1 hs hfa hen htab hC hbig
  rw [h1] at S1
  rw [h2] at S2
  have OF1 := Lib.hid (OF.out h1)
  have GX := Lib.hid (evM_good ⟨s.attrs, v.vals, s.fields, v.fields⟩ (EnBig.fit ⟨hsf.attrs, hB.vals, hsf.fields, hB.fields, hB.ok, hB.okf⟩ h1) t hnums)
  clear h1 h2
  generalize (t.chk 0).1 = ck at *
  generalize (t.chk 0).2 = cn at *
  subst h3
  clear OF
  obtain ⟨Y, hY⟩ : ∃ Y, Y = ofM s t := ⟨_, rfl⟩
  rw [← hY] at RO TK h4
  clear hY
  obtain ⟨⟨tk, te, tl⟩, tf⟩ := Y
  unfold retT at RO
  simp only at RO h4 TK
  have htf : ((tf : Int) != 0) = true := by simp; exact h4
  clear h4 TK
  unfold envC at *
  dsimp only at *
  go_enter Tryz.func5, Tryz.ntmps5
  go_wp2_with fail
  refine (AW.out _ B1.out).mono ?_
  rintro e w2 ⟨rfl, b2⟩
  have B2 := Lib.hid (B1.out.trans (b2.mono B1.out.size))
  have hv2 := V1.out.later b2
  have V2 := Lib.hid hv2
  have p0 := hv2.e.c0
  have p1 := hv2.e.c1
  have p2 := hv2.e.c2
  have p3 := hv2.e.c3
  clear b2 hv2
  go_wp2_with fail
  refine (CK.out w2 B2.out).mono ?_
  rintro e w3 ⟨rfl, b3⟩
  have B3 := Lib.hid (B2.out.trans (b3.mono B2.out.size))
  have hv3 := V2.out.later b3
  have V3 := Lib.hid hv3
  have s1 := hv3.s1
  have s2 := hv3.s2
  have fz := hv3.v.fz
  have r0 := hv3.v.c0
  have r1 := hv3.v.c1
  have r2 := hv3.v.c2
  have r3 := hv3.v.c3
  clear b3 hv3 p0 p1 p2 p3
  go_wp2_with fail
  go_region
  all_goals
    go_wp2_with fail
    refine (S1.out _ ((B3.out.drew.setCell (p := ⟨w.heap.size + 1 + 1, _, none⟩) (by show w.heap.size ≤ w.heap.size + 1 + 1; omega) _).setCell (p := ⟨w.heap.size + 1 + 1, _, none⟩) (by show w.heap.size ≤ w.heap.size + 1 + 1; omega) _)).mono ?_
    rintro e w5 ⟨rfl, b5⟩
    have V5 := Lib.hid (TyV.later (show TyV s pe pa pf ce ca cf t p c (.slice pa s.attrs.length ca) (.slice qv v.vals.length dv) (.slice pf s.fields.length cf) (.slice qf v.fields.length df) w.heap.size _ by first | exact V3.out.drew.set _ _ | exact V3.out.drew.setR _ _) b5)
    have B5 := Lib.hid (((B3.out.drew.setCell (p := ⟨w.heap.size + 1 + 1, _, none⟩) (by show w.heap.size ≤ w.heap.size + 1 + 1; omega) _).setCell (p := ⟨w.heap.size + 1 + 1, _, none⟩) (by show w.heap.size ≤ w.heap.size + 1 + 1; omega) _).trans (b5.mono (by simp; exact B3.out.size)))
    clear b5 r0 r1 r2 r3 s1 s2 fz
    have hv5 := V5.out
    have s0 := hv5.s0
    have s1 := hv5.s1
    have s2 := hv5.s2
    clear hv5
    go_wp2_with fail
    refine (S2.out _ B5.out).mono ?_
    rintro e w6 ⟨rfl, b6⟩
    have V6 := Lib.hid (V5.out.later b6)
    have B6 := Lib.hid (B5.out.trans (b6.mono B5.out.size))
    clear b6 s0 s1 s2
    have hv6 := V6.out
    have s0 := hv6.s0
    have s1 := hv6.s1
    have s2 := hv6.s2
    have p0 := hv6.e.c0
    have p1 := hv6.e.c1
    have p2 := hv6.e.c2
    have p3 := hv6.e.c3
    clear hv6
    go_wp2_with fail
    refine (RO.out _ B6.out).mono ?_
    rintro e w7 ⟨rfl, b7⟩
    have V7 := Lib.hid (V6.out.later b7)
    have B7 := Lib.hid (B6.out.trans (b7.mono B6.out.size))
    clear b7 s0 s1 s2 p0 p1 p2 p3
    have ba := (Below.refl w7.heap.size w7).alloc (Nat.le_refl _) (.cells #[.int .i64 tk, .string (S te), .string (S tl)] 35)
    have V8 := Lib.hid (V7.out.later ba)
    have B8 := Lib.hid (B7.out.trans (ba.mono B7.out.size))
    have HT8 := Lib.hid (show (w7.alloc (.cells #[.int .i64 tk, .string (S te), .string (S tl)] 35)).heap[w7.heap.size]? = some (.cells #[.int .i64 tk, .string (S te), .string (S tl)] 35 (0, 0)) from heap_alloc_new w7 _)
    clear ba
    go_wp2_with fail
    refine (AW.out _ B8.out).mono ?_
    rintro e w9 ⟨rfl, b9⟩
    have B9 := Lib.hid (B8.out.trans (b9.mono B8.out.size))
    clear b9
    go_wp2_with fail
    go_ret
    exact ⟨rfl, B9.out⟩
end Go.Proofs.YtchjckdjkecjnaaGreatDoor.Ev
namespace Go.Proofs.YtchjckdjkecjnaaGreatDoor.Ev
open Go.RowKit
open Ex Lx Va Ty
set_option linter.unusedVariables false
set_option linter.unusedSimpArgs false
set_option maxRecDepth 100000 in
set_option maxHeartbeats 8000000 in
theorem typed_5 (s : Sc) (pe pa pf : Option Addr) (ce ca cf : Nat) (t : T) (p : Option Addr) (c : Nat) (v : En) (r : Rows) (w : World) (hs : ScAt w pe pa pf s) (hsf : ScFit s) (hfa : FAt w (fun _ => True) t.args p) (hfit : t.row.fits) (hnums : t.row.nums) (hen : EnAt w r.pa r.pv r.pn r.pf v) (hB : EnBig v) (htab : Va.Tab w) (hC : ConsAt w) (h1 : smallV ⟨s.attrs, v.vals, s.fields, v.fields⟩ = true) (h2 : smallS s = true) (h3 : (t.chk 0).1 = 0) (h4 : (ofM s t).2 = 0) :
    Calls Tryz.prog 5 #[.agg #[.slice pe s.enums.length ce, .slice pa s.attrs.length ca, .slice pf s.fields.length cf], .agg #[.int .i64 t.op, .int .i64 t.num, .string (S t.text), .slice p t.args.len c], .agg (envC v r)] w fun e w' => e = .returned (.bool true) ∧ Below w.heap.size w w' := by
  obtain ⟨qa, qv, qn, qf, da, dv, dn, df⟩ := r
  have hen : EnAt w qa qv qn qf v := hen
  have hb1 := (((Below.refl w.heap.size w).alloc (Nat.le_refl _) (.cells #[.slice pe s.enums.length ce, .slice pa s.attrs.length ca, .slice pf s.fields.length cf] 25)).alloc (by simp) (.cells #[.int .i64 t.op, .int .i64 t.num, .string (S t.text), .slice p t.args.len c] 28)).alloc (by simp; omega) (.cells #[.slice qa v.attrs.length da, .slice qv v.vals.length dv, .slice qn v.names.length dn, .slice qf v.fields.length df] 48)
  have AW := Lib.hid (fun W (k : Below w.heap.size w W) => awake_any W (htab.below k) (hC.keep (Kept.of_below (ok := fun _ => True) k) trivial))
  have CK := Lib.hid (fun W (k : Below w.heap.size w W) => rck_any t hfit 0 p c W (by omega) (hfa.keep (Kept.of_below k)))
  have hbig : EnBig ⟨s.attrs, v.vals, s.fields, v.fields⟩ := ⟨hsf.attrs, hB.vals, hsf.fields, hB.fields, hB.ok, hB.okf⟩
  have EN := Lib.hid (fun W (k : Below w.heap.size w W) => show EnAt W pa qv pf qf ⟨s.attrs, v.vals, s.fields, v.fields⟩ from ⟨hs.attrs.later k, fun i hi => by
    obtain ⟨b, off, e, hv, hl⟩ := (hen.vals.below k) i hi
    obtain ⟨q, c, h0, h1, h2, h3, h4⟩ := hv
    exact ⟨b, off, e, ⟨q, c, h0, h1, h2, h3, h4.mono fun g hg => Nat.lt_of_lt_of_le hg k.size⟩, hl⟩, hs.fields.later k, fun i hi => by
    obtain ⟨b, off, e, hv, hl⟩ := (hen.fields.below k) i hi
    obtain ⟨q, c, h0, h1, h2, h3, h4⟩ := hv
    exact ⟨b, off, e, ⟨q, c, h0, h1, h2, h3, h4.mono fun g hg => Nat.lt_of_lt_of_le hg k.size⟩, hl⟩⟩)
  have S1 := Lib.hid (fun W (k : Below w.heap.size w W) => Ev.small_any ⟨s.attrs, v.vals, s.fields, v.fields⟩ ⟨pa, qv, pf, qf, ca, dv, cf, df⟩ W (EN.out W k) hbig)
  have S2 := Lib.hid (fun W (k : Below w.heap.size w W) => Ty.small_any s pe pa pf ce ca cf W (hs.later k).enums hsf.enums hsf.attrs hsf.fields hsf.syms)
  have RO := Lib.hid (fun W (k : Below w.heap.size w W) => rOf_any s pe pa pf ce ca cf hsf t hfit hnums p c W (hs.later k) (hfa.keep (Kept.of_below k)))
  have K1 := Lib.hid (fun W (k : Below w.heap.size w W) => kinds_any _ s.attrs v.vals pa qv ca dv W (EN.out W k).attrs hsf.attrs (EN.out W k).vals hB.vals)
  have K2 := Lib.hid (fun W (k : Below w.heap.size w W) => kinds_any _ s.fields v.fields pf qf cf df W (EN.out W k).names hsf.fields (EN.out W k).fields hB.fields)
  have OF := Lib.hid (fun (hsm : smallV ⟨s.attrs, v.vals, s.fields, v.fields⟩ = true) W (k : Below w.heap.size w W) => evOf_any ⟨s.attrs, v.vals, s.fields, v.fields⟩ ⟨pa, qv, pf, qf, ca, dv, cf, df⟩ (hbig.fit hsm) t hfit hnums p c W (EN.out W k) (hfa.keep (Kept.of_below k)) (htab.below k) (hC.keep (Kept.of_below (ok := fun _ => True) k) trivial))
  have TK := Lib.hid (fun h1 h2 h => typed_kd s ⟨s.attrs, v.vals, s.fields, v.fields⟩ t hnums rfl rfl h1 h2 h)
  have hv1 : TyV s pe pa pf ce ca cf t p c (.slice qa v.attrs.length da) (.slice qv v.vals.length dv) (.slice qn v.names.length dn) (.slice qf v.fields.length df) w.heap.size (((w.alloc (.cells #[.slice pe s.enums.length ce, .slice pa s.attrs.length ca, .slice pf s.fields.length cf] 25)).alloc (.cells #[.int .i64 t.op, .int .i64 t.num, .string (S t.text), .slice p t.args.len c] 28)).alloc (.cells #[.slice qa v.attrs.length da, .slice qv v.vals.length dv, .slice qn v.names.length dn, .slice qf v.fields.length df] 48)) := ⟨(((Below.refl _ _).alloc (Nat.le_refl _) _).block _ (by simp; omega)).trans ((((Below.refl _ _).alloc (Nat.le_refl _) _).block _ (by simp)).trans (heap_alloc_new w _)), laterE (new_box (w.alloc (.cells #[.slice pe s.enums.length ce, .slice pa s.attrs.length ca, .slice pf s.fields.length cf] 25)) _ _ _ (by simp)) ((Below.refl _ _).alloc (Nat.le_refl _) _), new_box _ _ _ _ (by simp)⟩
  have B1 := Lib.hid hb1
  have V1 := Lib.hid hv1
  clear hb1 hv1 hs hfa hen htab hC hbig
  rw [h1] at S1
  rw [h2] at S2
  have OF1 := Lib.hid (OF.out h1)
  have GX := Lib.hid (evM_good ⟨s.attrs, v.vals, s.fields, v.fields⟩ (EnBig.fit ⟨hsf.attrs, hB.vals, hsf.fields, hB.fields, hB.ok, hB.okf⟩ h1) t hnums)
  clear h1 h2
  generalize (t.chk 0).1 = ck at *
  generalize (t.chk 0).2 = cn at *
  subst h3
  clear OF
  obtain ⟨Y, hY⟩ : ∃ Y, Y = ofM s t := ⟨_, rfl⟩
  rw [← hY] at RO TK h4
  clear hY
  obtain ⟨⟨tk, te, tl⟩, tf⟩ := Y
  unfold retT at RO
  simp only at RO h4 TK
  subst h4
  unfold envC at *
  dsimp only at *
  go_enter Tryz.func5, Tryz.ntmps5
  go_wp2_with fail
  refine (AW.out _ B1.out).mono ?_
  rintro e w2 ⟨rfl, b2⟩
  have B2 := Lib.hid (B1.out.trans (b2.mono B1.out.size))
  have hv2 := V1.out.later b2
  have V2 := Lib.hid hv2
  have p0 := hv2.e.c0
  have p1 := hv2.e.c1
  have p2 := hv2.e.c2
  have p3 := hv2.e.c3
  clear b2 hv2
  go_wp2_with fail
  refine (CK.out w2 B2.out).mono ?_
  rintro e w3 ⟨rfl, b3⟩
  have B3 := Lib.hid (B2.out.trans (b3.mono B2.out.size))
  have hv3 := V2.out.later b3
  have V3 := Lib.hid hv3
  have s1 := hv3.s1
  have s2 := hv3.s2
  have fz := hv3.v.fz
  have r0 := hv3.v.c0
  have r1 := hv3.v.c1
  have r2 := hv3.v.c2
  have r3 := hv3.v.c3
  clear b3 hv3 p0 p1 p2 p3
  go_wp2_with fail
  go_region
  all_goals
    go_wp2_with fail
    refine (S1.out _ ((B3.out.drew.setCell (p := ⟨w.heap.size + 1 + 1, _, none⟩) (by show w.heap.size ≤ w.heap.size + 1 + 1; omega) _).setCell (p := ⟨w.heap.size + 1 + 1, _, none⟩) (by show w.heap.size ≤ w.heap.size + 1 + 1; omega) _)).mono ?_
    rintro e w5 ⟨rfl, b5⟩
    have V5 := Lib.hid (TyV.later (show TyV s pe pa pf ce ca cf t p c (.slice pa s.attrs.length ca) (.slice qv v.vals.length dv) (.slice pf s.fields.length cf) (.slice qf v.fields.length df) w.heap.size _ by first | exact V3.out.drew.set _ _ | exact V3.out.drew.setR _ _) b5)
    have B5 := Lib.hid (((B3.out.drew.setCell (p := ⟨w.heap.size + 1 + 1, _, none⟩) (by show w.heap.size ≤ w.heap.size + 1 + 1; omega) _).setCell (p := ⟨w.heap.size + 1 + 1, _, none⟩) (by show w.heap.size ≤ w.heap.size + 1 + 1; omega) _).trans (b5.mono (by simp; exact B3.out.size)))
    clear b5 r0 r1 r2 r3 s1 s2 fz
    have hv5 := V5.out
    have s0 := hv5.s0
    have s1 := hv5.s1
    have s2 := hv5.s2
    clear hv5
    go_wp2_with fail
    refine (S2.out _ B5.out).mono ?_
    rintro e w6 ⟨rfl, b6⟩
    have V6 := Lib.hid (V5.out.later b6)
    have B6 := Lib.hid (B5.out.trans (b6.mono B5.out.size))
    clear b6 s0 s1 s2
    have hv6 := V6.out
    have s0 := hv6.s0
    have s1 := hv6.s1
    have s2 := hv6.s2
    have p0 := hv6.e.c0
    have p1 := hv6.e.c1
    have p2 := hv6.e.c2
    have p3 := hv6.e.c3
    clear hv6
    go_wp2_with fail
    refine (RO.out _ B6.out).mono ?_
    rintro e w7 ⟨rfl, b7⟩
    have V7 := Lib.hid (V6.out.later b7)
    have B7 := Lib.hid (B6.out.trans (b7.mono B6.out.size))
    clear b7 s0 s1 s2 p0 p1 p2 p3
    have ba := (Below.refl w7.heap.size w7).alloc (Nat.le_refl _) (.cells #[.int .i64 tk, .string (S te), .string (S tl)] 35)
    have V8 := Lib.hid (V7.out.later ba)
    have B8 := Lib.hid (B7.out.trans (ba.mono B7.out.size))
    have HT8 := Lib.hid (show (w7.alloc (.cells #[.int .i64 tk, .string (S te), .string (S tl)] 35)).heap[w7.heap.size]? = some (.cells #[.int .i64 tk, .string (S te), .string (S tl)] 35 (0, 0)) from heap_alloc_new w7 _)
    clear ba
    have hv8 := V8.out
    have s1 := hv8.s1
    have r1 := hv8.v.c1
    clear hv8
    go_wp2_with fail
    refine (K1.out _ B8.out).mono ?_
    rintro e w9 ⟨⟨b1, rfl, hb1⟩, b9⟩
    have V9 := Lib.hid (V8.out.later b9)
    have B9 := Lib.hid (B8.out.trans (b9.mono B8.out.size))
    have HT9 := Lib.hid ((b9.block w7.heap.size (by simp)).trans HT8.out)
    have HK1 := Lib.hid hb1
    clear b9 s1 r1 hb1
    cases b1 with
    | false =>
      go_wp2_with fail
      refine (AW.out _ B9.out).mono ?_
      rintro e w11 ⟨rfl, b11⟩
      have B11 := Lib.hid (B9.out.trans (b11.mono B9.out.size))
      clear b11
      go_wp2_with fail
      go_ret
      exact ⟨rfl, B11.out⟩
    | true =>
      have hv9 := V9.out
      have s2 := hv9.s2
      have r3 := hv9.v.c3
      clear hv9
      go_wp2_with fail
      refine (K2.out _ B9.out).mono ?_
      rintro e w10 ⟨⟨b2, rfl, hb2⟩, b10⟩
      have V10 := Lib.hid (V9.out.later b10)
      have B10 := Lib.hid (B9.out.trans (b10.mono B9.out.size))
      have HT10 := Lib.hid ((b10.block w7.heap.size (World.block_lt_of_cell? w9 _ (cell_of_row w9 w7.heap.size 0 _ _ (0, 0) HT9.out))).trans HT9.out)
      have HK2 := Lib.hid hb2
      clear b10 s2 r3 hb2
      cases b2 with
      | false =>
        go_wp2_with fail
        refine (AW.out _ B10.out).mono ?_
        rintro e w11 ⟨rfl, b11⟩
        have B11 := Lib.hid (B10.out.trans (b11.mono B10.out.size))
        clear b11
        go_wp2_with fail
        go_ret
        exact ⟨rfl, B11.out⟩
      | true =>
        have htk := TK.out (HK1.out (by first | rfl | trivial)) (HK2.out (by first | rfl | trivial)) (by first | rfl | trivial)
        have hv10 := V10.out
        have p0 := hv10.e.c0
        have p1 := hv10.e.c1
        have p2 := hv10.e.c2
        have p3 := hv10.e.c3
        have r0 := hv10.v.c0
        have r1 := hv10.v.c1
        have r2 := hv10.v.c2
        have r3 := hv10.v.c3
        have OF2 := Lib.hid (OF1.out _ B10.out)
        clear hv10 OF1
        obtain ⟨X, hX⟩ : ∃ X, X = evM ⟨s.attrs, v.vals, s.fields, v.fields⟩ t := ⟨_, rfl⟩
        rw [← hX] at OF2 htk
        clear hX GX
        obtain ⟨⟨xk, xn, xt, xl⟩, er⟩ := X
        simp only at htk
        go_wp2_with fail
        refine OF2.out.mono ?_
        rintro e w11 ⟨⟨a11, c11, rfl, _⟩, b11⟩
        have B11 := Lib.hid (B10.out.trans (b11.mono B10.out.size))
        have HT11 := Lib.hid ((b11.block w7.heap.size (World.block_lt_of_cell? w10 _ (cell_of_row w10 w7.heap.size 0 _ _ (0, 0) HT10.out))).trans HT10.out)
        clear b11 p0 p1 p2 p3 r0 r1 r2 r3
        have ba := (Below.refl w11.heap.size w11).alloc (Nat.le_refl _) (.cells #[.int .i64 xk, .int .i64 xn, .string (S xt), .slice a11 xl.length c11] 45)
        have B12 := Lib.hid (B11.out.trans (ba.mono B11.out.size))
        have HT12 := Lib.hid ((ba.block w7.heap.size (World.block_lt_of_cell? w11 _ (cell_of_row w11 w7.heap.size 0 _ _ (0, 0) HT11.out))).trans HT11.out)
        have HX12 := Lib.hid (VB.new w11 (.int .i64 xk) (.int .i64 xn) (.string (S xt)) (.slice a11 xl.length c11) _ rfl)
        have AW2 := Lib.hid (AW.out _ B12.out)
        clear ba
        unfold valC
        rcases htk with ⟨h0, hk⟩ | h4
        · subst h0
          subst hk
          go_wp2_with fail
          refine AW2.out.mono ?_
          rintro e w13 ⟨rfl, b13⟩
          have x0 := (HX12.out.later b13).c0
          have t0 := cell_of_row w13 w7.heap.size 0 _ _ (0, 0) ((b13.block w7.heap.size (World.block_lt_of_cell? _ _ (cell_of_row _ w7.heap.size 0 _ _ (0, 0) HT12.out))).trans HT12.out)
          have B13 := Lib.hid (B12.out.trans (b13.mono B12.out.size))
          clear b13
          go_wp2_with fail
          go_ret
          exact ⟨rfl, B13.out⟩
        · rcases h4 with h4 | h4 | h4 | h4
          all_goals
            subst h4
            go_wp2_with fail
            refine AW2.out.mono ?_
            rintro e w13 ⟨rfl, b13⟩
            have B13 := Lib.hid (B12.out.trans (b13.mono B12.out.size))
            clear b13
            go_wp2_with fail
            go_ret
            exact ⟨rfl, B13.out⟩
end Go.Proofs.YtchjckdjkecjnaaGreatDoor.Ev
namespace Go.Proofs.YtchjckdjkecjnaaGreatDoor.Ev
open Go.RowKit
open Ex Lx Va Ty
theorem EvalTyped_walk (s : Sc) (pe pa pf : Option Addr) (ce ca cf : Nat) (t : T) (p : Option Addr) (c : Nat) (v : En) (r : Rows) (w : World) (hs : ScAt w pe pa pf s) (hsf : ScFit s) (hfa : FAt w (fun _ => True) t.args p) (hfit : t.row.fits) (hnums : t.row.nums) (hen : EnAt w r.pa r.pv r.pn r.pf v) (hB : EnBig v) (htab : Va.Tab w) (hC : ConsAt w) :
    Calls Tryz.prog 5 #[.agg #[.slice pe s.enums.length ce, .slice pa s.attrs.length ca, .slice pf s.fields.length cf], .agg #[.int .i64 t.op, .int .i64 t.num, .string (S t.text), .slice p t.args.len c], .agg (envC v r)] w fun e w' => e = .returned (.bool true) ∧ Below w.heap.size w w' := by
  cases h1 : smallV ⟨s.attrs, v.vals, s.fields, v.fields⟩ with
  | false => exact typed_1 s pe pa pf ce ca cf t p c v r w hs hsf hfa hfit hnums hen hB htab hC h1
  | true =>
    cases h2 : smallS s with
    | false => exact typed_2 s pe pa pf ce ca cf t p c v r w hs hsf hfa hfit hnums hen hB htab hC h1 h2
    | true =>
      by_cases h3 : (t.chk 0).1 = 0
      · by_cases h4 : (ofM s t).2 = 0
        · exact typed_5 s pe pa pf ce ca cf t p c v r w hs hsf hfa hfit hnums hen hB htab hC h1 h2 h3 h4
        · exact typed_4 s pe pa pf ce ca cf t p c v r w hs hsf hfa hfit hnums hen hB htab hC h1 h2 h3 h4
      · exact typed_3 s pe pa pf ce ca cf t p c v r w hs hsf hfa hfit hnums hen hB htab hC h1 h2 h3
end Go.Proofs.YtchjckdjkecjnaaGreatDoor.Ev
