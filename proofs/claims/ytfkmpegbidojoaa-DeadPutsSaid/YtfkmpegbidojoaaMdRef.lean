/-
  The document's own answers on dead letters.
-/
import Derived.Test.YtfkmpegbidojoaaMdDSmall
import Derived.Test.YtfkmpegbidojoaaUntil
namespace Go.Proofs.Ytfkmpegbidojoaa.Md
open Go.RowKit
open Va
set_option linter.unusedVariables false
set_option linter.unusedSimpArgs false

set_option maxRecDepth 100000 in
theorem rword_any (r : Int) (w : World) : Calls Try.prog 30 #[.int .i64 r] w fun e w' => e = .returned (.string (S (wordL r))) ∧ w = w' := by
  by_cases h1 : r = 1
  · subst h1
    rw [show S (wordL 1) = ⟨#[110, 111, 32, 109, 97, 116, 99, 104]⟩ from rfl]
    go_enter Try.func30, Try.ntmps30
    go_wp2_with fail
    go_ret
    simp
  by_cases h2 : r = 2
  · subst h2
    rw [show S (wordL 2) = ⟨#[116, 111, 111, 32, 102, 101, 119]⟩ from rfl]
    go_enter Try.func30, Try.ntmps30
    go_wp2_with fail
    go_ret
    simp
  by_cases h3 : r = 3
  · subst h3
    rw [show S (wordL 3) = ⟨#[116, 111, 111, 32, 109, 97, 110, 121]⟩ from rfl]
    go_enter Try.func30, Try.ntmps30
    go_wp2_with fail
    go_ret
    simp
  by_cases h4 : r = 4
  · subst h4
    rw [show S (wordL 4) = ⟨#[111, 118, 101, 114]⟩ from rfl]
    go_enter Try.func30, Try.ntmps30
    go_wp2_with fail
    go_ret
    simp
  by_cases h5 : r = 5
  · subst h5
    rw [show S (wordL 5) = ⟨#[98, 117, 114, 105, 101, 100]⟩ from rfl]
    go_enter Try.func30, Try.ntmps30
    go_wp2_with fail
    go_ret
    simp
  rw [show wordL r = [] by unfold wordL; rw [if_neg h1, if_neg h2, if_neg h3, if_neg h4, if_neg h5], show S [] = ⟨#[]⟩ from rfl]
  have e1 : (r == 1) = false := by simpa using h1
  have e2 : (r == 2) = false := by simpa using h2
  have e3 : (r == 3) = false := by simpa using h3
  have e4 : (r == 4) = false := by simpa using h4
  have e5 : (r == 5) = false := by simpa using h5
  go_enter Try.func30, Try.ntmps30
  go_wp2_with fail
  go_ret
  simp


/-- What the document's Find hands out: the letter itself. -/
def RFound (o : Option DeadP) (w : World) (e : Ending) : Prop :=
  match o with
  | none => e = .returned (.tuple #[zD, .bool false])
  | some x => ∃ ka kc fa fc, e = .returned (.tuple #[dV x ka kc fa fc, .bool true]) ∧ ValsAt w ka x.mail.key ∧ ValsAt w fa x.mail.fields
theorem findL_at {l : List DeadP} {n : Int} {k : Nat} (hk : k < l.length) (h : (l[k].n == n) = true) (hn : ∀ j, (hj : j < l.length) → j < k → (l[j].n == n) = false) : findL l n = some l[k] := by
  unfold findL
  exact List.find?_eq_some_iff_getElem.2 ⟨h, k, hk, rfl, fun j hj => by simpa using hn j (by omega) hj⟩
theorem findL_no {l : List DeadP} {n : Int} (hn : ∀ j, (hj : j < l.length) → (l[j].n == n) = false) : findL l n = none := by
  unfold findL
  exact List.find?_eq_none.2 fun x hx => by obtain ⟨j, hj, rfl⟩ := List.mem_iff_getElem.1 hx; simp [hn j hj]
set_option maxRecDepth 100000 in
set_option maxHeartbeats 4000000 in
theorem rfind_any (l : List DeadP) (hl : l.length ≤ 1000) (n : Int) (a : Option Addr) (cap : Nat) (w : World) (hx : DeadsAt w a l) :
    Calls Try.prog 26 #[.slice a l.length cap, .int .i64 n] w fun e w' => RFound (findL l n) w e ∧ Below w.heap.size w w' := by
  have k1 := (Below.refl w.heap.size w).alloc (Nat.le_refl _) (.cells #[.int .i64 0, .int .i64 0, .string ⟨#[]⟩, .slice none 0 0, .slice none 0 0, .int .i64 0] 46)
  have h0 : BD (w.alloc (.cells #[.int .i64 0, .int .i64 0, .string ⟨#[]⟩, .slice none 0 0, .slice none 0 0, .int .i64 0] 46)) w.heap.size (.int .i64 0) (.int .i64 0) (.string ⟨#[]⟩) (.slice none 0 0) (.slice none 0 0) (.int .i64 0) := heap_alloc_new w _
  obtain ⟨W0, hW0⟩ : ∃ W0, W0 = w.alloc (.cells #[.int .i64 0, .int .i64 0, .string ⟨#[]⟩, .slice none 0 0, .slice none 0 0, .int .i64 0] 46) := ⟨_, rfl⟩
  have HW0 := Lib.hid hW0
  rw [← hW0] at k1 h0
  have K1 := Lib.hid k1
  have D0 := Lib.hid h0
  have HX := Lib.hid hx
  have hli : (l.length : Int) ≤ 1000 := by omega
  obtain ⟨Pst, hPst⟩ : ∃ Pst : Ending → World → Prop, Pst = fun e w' => RFound (findL l n) w e ∧ Below w.heap.size w w' := ⟨_, rfl⟩
  rw [← hPst]
  have HP := Lib.hid hPst
  clear k1 h0 hW0 hx hPst
  go_enter Try.func26, Try.ntmps26
  go_wp2_with fail
  rw [← HW0.out]
  go_loopw [10] (fun iv wr => ∃ k : Nat, k ≤ l.length ∧ iv = .int .i64 k ∧ Below w.heap.size w wr ∧ Below W0.heap.size W0 wr ∧ Hid (∀ j, (hj : j < l.length) → j < k → (l[j].n == n) = false)) (fun iv _ => l.length - (intOf iv).toNat)
  case atStart => exact ⟨0, by omega, rfl, K1.out, Below.refl _ _, Lib.hid (fun j _ h => absurd h (by omega))⟩
  case round =>
    obtain ⟨k, hk, rfl, hb, hb0, hno⟩ := hrel
    have HB := Lib.hid hb
    have HB0 := Lib.hid hb0
    by_cases hlt : k < l.length
    · have hki : (k : Int) < (l.length : Int) := by omega
      obtain ⟨b, off, ka, kc, fa, fc, hae, ⟨v0, v1, v2, v3, v4, v5, hka, hfa⟩, hgl⟩ := HX.out k hlt
      subst hae
      obtain ⟨x, hxe⟩ : ∃ x, x = l[k] := ⟨_, rfl⟩
      rw [← hxe] at v0 v1 v2 v3 v4 v5 hka hfa
      have p0 := (hb.cell (p := ⟨b, off + k * 6, none⟩) hgl).trans v0
      have p1 := (hb.cell (p := ⟨b, off + k * 6 + 1, none⟩) hgl).trans v1
      have p2 := (hb.cell (p := ⟨b, off + k * 6 + 2, none⟩) hgl).trans v2
      have p3 := (hb.cell (p := ⟨b, off + k * 6 + 3, none⟩) hgl).trans v3
      have p4 := (hb.cell (p := ⟨b, off + k * 6 + 4, none⟩) hgl).trans v4
      have p5 := (hb.cell (p := ⟨b, off + k * 6 + 5, none⟩) hgl).trans v5
      have k0 := (Below.refl wr.heap.size wr).alloc (Nat.le_refl _) (.cells #[.int .i64 x.n, .int .i64 x.mail.id, .string (S x.mail.chan), .slice ka x.mail.key.length kc, .slice fa x.mail.fields.length fc, .int .i64 x.reason] 46)
      have h1 : BD (wr.alloc (.cells #[.int .i64 x.n, .int .i64 x.mail.id, .string (S x.mail.chan), .slice ka x.mail.key.length kc, .slice fa x.mail.fields.length fc, .int .i64 x.reason] 46)) wr.heap.size (.int .i64 x.n) (.int .i64 x.mail.id) (.string (S x.mail.chan)) (.slice ka x.mail.key.length kc) (.slice fa x.mail.fields.length fc) (.int .i64 x.reason) := heap_alloc_new wr _
      have HXE := Lib.hid hxe
      have B1 := Lib.hid (hb.trans (k0.mono hb.size))
      have Z1 := Lib.hid (D0.out.below (hb0.trans (k0.mono hb0.size)))
      have HKF := Lib.hid (And.intro hka hfa)
      have g0 := h1.c0
      have g1 := h1.c1
      have g2 := h1.c2
      have g3 := h1.c3
      have g4 := h1.c4
      have g5 := h1.c5
      have z0 := Z1.out.c0
      have z1 := Z1.out.c1
      have z2 := Z1.out.c2
      have z3 := Z1.out.c3
      have z4 := Z1.out.c4
      have z5 := Z1.out.c5
      have f0 := Z1.out.fz 0
      have f1 := Z1.out.fz 1
      have f2 := Z1.out.fz 2
      have f3 := Z1.out.fz 3
      have f4 := Z1.out.fz 4
      have f5 := Z1.out.fz 5
      clear hb hb0 v0 v1 v2 v3 v4 v5 hka hfa hxe k0 h1
      cases hp : (x.n == n) with
      | true =>
        have HFO := Lib.hid (findL_at hlt (by rw [← HXE.out]; exact hp) hno.out)
        go_wp2_with fail
        refine bodyPost_ret (v := .tuple #[dV x ka kc fa fc, .bool true]) (res_bd2 rfl _ _ w.heap.size _ _ _ _ _ _ _ rfl (Z1.out.put _ _ _ _ _ _) rfl) rfl ?_
        rw [HP.out]
        refine ⟨?_, dput_below B1.out _ (Nat.le_refl _) _ _ _ _ _ _⟩
        rw [HFO.out, ← HXE.out]
        exact ⟨ka, kc, fa, fc, rfl, HKF.out.1, HKF.out.2⟩
      | false =>
        go_wp2_with fail
        go_roundw
        case rel => exact ⟨k + 1, by omega, by go_num, B1.out, Below.trans HB0.out ((Below.refl wr.heap.size wr).alloc (Nat.le_refl _) _ |>.mono HB0.out.size), Lib.hid (fun j hj hjk => by
          by_cases e : j = k
          · subst e; rw [← HXE.out]; exact hp
          · exact hno.out j hj (by omega))⟩
        case measure => simp [intOf]; omega
    · have hki : ¬ (k : Int) < (l.length : Int) := by omega
      have HFO := Lib.hid (findL_no fun j hj => hno.out j hj (by omega))
      have Z1 := Lib.hid (D0.out.below hb0)
      have z0 := Z1.out.c0
      have z1 := Z1.out.c1
      have z2 := Z1.out.c2
      have z3 := Z1.out.c3
      have z4 := Z1.out.c4
      have z5 := Z1.out.c5
      have f0 := Z1.out.fz 0
      have f1 := Z1.out.fz 1
      have f2 := Z1.out.fz 2
      have f3 := Z1.out.fz 3
      have f4 := Z1.out.fz 4
      have f5 := Z1.out.fz 5
      clear hb hb0
      go_wp2_with fail
      refine bodyPost_ret (v := .tuple #[zD, .bool false]) (res_bd2 rfl _ _ w.heap.size _ _ _ _ _ _ _ rfl (Z1.out.put _ _ _ _ _ _) rfl) rfl ?_
      rw [HP.out]
      refine ⟨?_, dput_below HB.out _ (Nat.le_refl _) _ _ _ _ _ _⟩
      rw [HFO.out]
      rfl

/-- What the document's Drop answers. -/
def RDropped (l : List DeadP) (n : Int) (w : World) (e : Ending) (w' : World) : Prop :=
  if (dropL l n).length = l.length then e = .returned (.tuple #[.slice none 0 0, .int .i64 22]) else ∃ q cp, e = .returned (.tuple #[.slice q (dropL l n).length cp, .int .i64 0]) ∧ DeadsAt w' q (dropL l n)
set_option maxRecDepth 100000 in
set_option maxHeartbeats 4000000 in
theorem rdrop_any (l : List DeadP) (hl : l.length ≤ 1000) (n : Int) (a : Option Addr) (cap : Nat) (w : World) (hx : DeadsAt w a l) :
    Calls Try.prog 24 #[.slice a l.length cap, .int .i64 n] w fun e w' => RDropped l n w e w' ∧ Below w.heap.size w w' := by
  have HX := Lib.hid hx
  have hli : (l.length : Int) ≤ 1000 := by omega
  obtain ⟨Pst, hPst⟩ : ∃ Pst : Ending → World → Prop, Pst = fun e w' => RDropped l n w e w' ∧ Below w.heap.size w w' := ⟨_, rfl⟩
  rw [← hPst]
  have HP := Lib.hid hPst
  clear hx hPst
  go_enter Try.func24, Try.ntmps24
  go_wp2_with fail
  go_loopw [6, 11] (fun lv iv wr => ∃ (k : Nat) (q : Option Addr) (d : List DK) (cp : Nat), k ≤ l.length ∧ iv = .int .i64 k ∧ lv = .slice q d.length cp ∧ Below w.heap.size w wr ∧ DO w.heap.size w wr q d cp ∧ Hid (d.map (·.x) = dropL (l.take k) n)) (fun _ iv _ => l.length - (intOf iv).toNat)
  case atStart => exact ⟨0, none, [], 0, by omega, rfl, rfl, Below.refl _ _, DO.nil _ _ _, Lib.hid (by simp [dropL])⟩
  case round =>
    obtain ⟨k, q, d, cp, hk, rfl, rfl, hb, hdo, hdm⟩ := hrel
    have HB := Lib.hid hb
    have HD := Lib.hid hdo
    have hdl : d.length ≤ 1000 := by
      have h1 := congrArg List.length hdm.out
      have h2 := List.length_filter_le (fun x : DeadP => !(x.n == n)) (l.take k)
      rw [List.length_map] at h1
      unfold dropL at h1
      have h3 : (l.take k).length ≤ l.length := by rw [List.length_take]; omega
      omega
    have HDL := Lib.hid hdl
    clear hdl
    by_cases hlt : k < l.length
    · have hki : (k : Int) < (l.length : Int) := by omega
      have HNX := Lib.hid (filter_next (fun x => !(x.n == n)) l k hlt)
      obtain ⟨b, off, ka, kc, fa, fc, hae, ⟨v0, v1, v2, v3, v4, v5, hka, hfa⟩, hgl⟩ := HX.out k hlt
      subst hae
      obtain ⟨x, hxe⟩ : ∃ x, x = l[k] := ⟨_, rfl⟩
      rw [← hxe] at HNX v0 v1 v2 v3 v4 v5 hka hfa
      have p0 := (hb.cell (p := ⟨b, off + k * 6, none⟩) hgl).trans v0
      have p1 := (hb.cell (p := ⟨b, off + k * 6 + 1, none⟩) hgl).trans v1
      have p2 := (hb.cell (p := ⟨b, off + k * 6 + 2, none⟩) hgl).trans v2
      have p3 := (hb.cell (p := ⟨b, off + k * 6 + 3, none⟩) hgl).trans v3
      have p4 := (hb.cell (p := ⟨b, off + k * 6 + 4, none⟩) hgl).trans v4
      have p5 := (hb.cell (p := ⟨b, off + k * 6 + 5, none⟩) hgl).trans v5
      have k0 := (Below.refl wr.heap.size wr).alloc (Nat.le_refl _) (.cells #[.int .i64 x.n, .int .i64 x.mail.id, .string (S x.mail.chan), .slice ka x.mail.key.length kc, .slice fa x.mail.fields.length fc, .int .i64 x.reason] 46)
      have h1 : BD (wr.alloc (.cells #[.int .i64 x.n, .int .i64 x.mail.id, .string (S x.mail.chan), .slice ka x.mail.key.length kc, .slice fa x.mail.fields.length fc, .int .i64 x.reason] 46)) wr.heap.size (.int .i64 x.n) (.int .i64 x.mail.id) (.string (S x.mail.chan)) (.slice ka x.mail.key.length kc) (.slice fa x.mail.fields.length fc) (.int .i64 x.reason) := heap_alloc_new wr _
      have HXE := Lib.hid hxe
      have HDO1 := Lib.hid (hdo.below k0)
      have B1 := Lib.hid (hb.trans (k0.mono hb.size))
      have HKF := Lib.hid (And.intro hka hfa)
      have g0 := h1.c0
      have g1 := h1.c1
      have g2 := h1.c2
      have g3 := h1.c3
      have g4 := h1.c4
      have g5 := h1.c5
      obtain ⟨W1, hW1⟩ : ∃ W1, W1 = wr.alloc (.cells #[.int .i64 x.n, .int .i64 x.mail.id, .string (S x.mail.chan), .slice ka x.mail.key.length kc, .slice fa x.mail.fields.length fc, .int .i64 x.reason] 46) := ⟨_, rfl⟩
      have HW1 := Lib.hid hW1
      rw [← hW1] at HDO1 B1
      have k3 := (Below.refl W1.heap.size W1).alloc (Nat.le_refl _) (.cells #[.int .i64 x.n, .int .i64 x.mail.id, .string (S x.mail.chan), .slice ka x.mail.key.length kc, .slice fa x.mail.fields.length fc, .int .i64 x.reason] 46)
      have b3 := B1.out.trans (k3.mono B1.out.size)
      obtain ⟨q6, cp6, w6, hrun, hdo6, b6, _⟩ := (HDO1.out.below k3).app b3.size [⟨x, ka, kc, fa, fc⟩] (by have := HDL.out; simp; omega) W1.heap.size 0 1 (rows_one W1 ⟨x, ka, kc, fa, fc⟩ W1.heap.size rfl) (fun y hy => by
        obtain rfl : y = ⟨x, ka, kc, fa, fc⟩ := by simpa using hy
        exact HKF.out)
      rw [hW1] at hrun
      rw [show (wr.alloc (.cells #[.int .i64 x.n, .int .i64 x.mail.id, .string (S x.mail.chan), .slice ka x.mail.key.length kc, .slice fa x.mail.fields.length fc, .int .i64 x.reason] 46)).heap.size = wr.heap.size + 1 by simp] at hrun
      have HRUN := Lib.hid hrun
      have HDO6 := Lib.hid hdo6
      have B6 := Lib.hid (b3.trans b6)
      clear hb hdo v0 v1 v2 v3 v4 v5 hka hfa hxe k0 h1 k3 b3 hrun hdo6 b6 hW1
      cases hp : (x.n == n) with
      | true =>
        have hp2 : (x.n != n) = false := by simpa using hp
        rw [hp] at HNX
        clear hp
        go_wp2_with fail
        go_roundw
        case rel => exact ⟨k + 1, q, d, cp, by omega, by go_num, rfl, by rw [← HW1.out]; exact B1.out, by rw [← HW1.out]; exact HDO1.out, Lib.hid (by unfold dropL at hdm ⊢; rw [HNX.out, hdm.out]; simp)⟩
        case measure => simp [intOf]; omega
      | false =>
        have hp2 : (x.n != n) = true := by simpa using hp
        rw [hp] at HNX
        clear hp
        go_wp2_with (at_builtin; refine wpList_app rfl _ _ _ _ rfl rfl rfl _ _ HRUN.out ?_)
        go_wp2_with fail
        go_roundw
        case rel => exact ⟨k + 1, q6, d ++ [⟨x, ka, kc, fa, fc⟩], cp6, by omega, by go_num, by rw [List.length_append]; rfl, B6.out, HDO6.out, Lib.hid (by unfold dropL at hdm ⊢; rw [HNX.out, List.map_append, hdm.out]; rfl)⟩
        case measure => simp [intOf]; omega
    · have hki : ¬ (k : Int) < (l.length : Int) := by omega
      have hke : k = l.length := by omega
      have HDM := Lib.hid (show d.map (·.x) = dropL l n by rw [hdm.out, hke, List.take_length])
      have HDD : Hid (DeadsAt wr q (dropL l n)) := Lib.hid (by have := hdo.deads hb; rw [HDM.out] at this; exact this)
      have hdl : d.length = (dropL l n).length := by rw [← HDM.out]; simp
      have HDL2 := Lib.hid hdl
      have hle : (dropL l n).length ≤ l.length := List.length_filter_le _ _
      by_cases hz : (dropL l n).length = l.length
      · have e1 : ((d.length : Int) == (l.length : Int)) = true := by simp; omega
        have HZ := Lib.hid hz
        clear hb hdo hdm hz hdl hle
        go_wp2_with fail
        rw [HP.out]
        refine ⟨?_, HB.out⟩
        unfold RDropped
        rw [if_pos HZ.out]
      · have e1 : ((d.length : Int) == (l.length : Int)) = false := by simp; omega
        have HZ := Lib.hid hz
        clear hb hdo hdm hz hdl hle
        go_wp2_with fail
        rw [HP.out]
        refine ⟨?_, HB.out⟩
        unfold RDropped
        rw [if_neg HZ.out]
        exact ⟨q, cp, by rw [← HDL2.out], HDD.out⟩

end Go.Proofs.Ytfkmpegbidojoaa.Md
