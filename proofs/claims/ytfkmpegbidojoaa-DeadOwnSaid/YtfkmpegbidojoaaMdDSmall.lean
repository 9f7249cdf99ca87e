/-
  The statements' own small functions on dead letters.
-/
import Derived.Test.YtfkmpegbidojoaaMdAwak2
import Derived.Test.YtfkmpegbidojoaaMdSameR
namespace Go.Proofs.Ytfkmpegbidojoaa.Md
open Go.RowKit
open Va
set_option linter.unusedVariables false
set_option linter.unusedSimpArgs false

theorem DeadAt.below {w w' : World} {b o : Nat} {x : DeadP} {ka fa : Option Addr} {kc fc : Nat} (h : DeadAt w b o x ka kc fa fc) (hl : b < w.heap.size) (k : Below w.heap.size w w') : DeadAt w' b o x ka kc fa fc := by
  obtain ⟨h0, h1, h2, h3, h4, h5, h6, h7⟩ := h
  have hc : ∀ j, w'.cell? ⟨b, j, none⟩ = w.cell? ⟨b, j, none⟩ := fun j => k.cell (p := ⟨b, j, none⟩) hl
  exact ⟨(hc _).trans h0, (hc _).trans h1, (hc _).trans h2, (hc _).trans h3, (hc _).trans h4, (hc _).trans h5, h6.below k, h7.below k⟩
set_option maxRecDepth 100000 in
set_option maxHeartbeats 4000000 in
theorem same_refl (l : List DeadP) (ok : ∀ x ∈ l, Msh x.mail) (hl : l.length ≤ 140737488355328) (a b : Option Addr) (ca cb : Nat) (w : World) (ha : DeadsAt w a l) (hb : DeadsAt w b l) :
    Calls Try.prog 27 #[.slice a l.length ca, .slice b l.length cb] w fun e w' => e = .returned (.bool true) ∧ Below w.heap.size w w' := by
  have HX := Lib.hid ha
  have HY := Lib.hid hb
  have HOK := Lib.hid ok
  clear ha hb ok
  go_enter Try.func27, Try.ntmps27
  go_wp2_with fail
  go_loopw [13] (fun i wr => ∃ k : Nat, k ≤ l.length ∧ i = .int .i64 k ∧ Below w.heap.size w wr) (fun i _ => l.length - (intOf i).toNat)
  case atStart => exact ⟨0, by omega, rfl, Below.refl _ _⟩
  case round =>
    obtain ⟨k, hk, rfl, hb⟩ := hrel
    have HB := Lib.hid hb
    clear hb
    by_cases hlt : k < l.length
    · obtain ⟨g1, o1, ka, kc, fa, fc, rfl, hm1, hg1⟩ := HX.out k hlt
      obtain ⟨g2, o2, la, lc, ga, gc, rfl, hm2, hg2⟩ := HY.out k hlt
      have HBD := Lib.hid (show Below w.heap.size w wr.drew from ⟨HB.out.os, HB.out.tape, HB.out.output, HB.out.size, HB.out.block⟩)
      have hgw1 : g1 < wr.drew.heap.size := Nat.lt_of_lt_of_le hg1 HBD.out.size
      have hgw2 : g2 < wr.drew.heap.size := Nat.lt_of_lt_of_le hg2 HBD.out.size
      have hok := HOK.out l[k] (List.getElem_mem _)
      have hki : (k : Int) < (l.length : Int) := by omega
      have hm1 := hm1.below hg1 HBD.out
      have hm2 := hm2.below hg2 HBD.out
      generalize l[k] = x at *
      have hkeep : ∀ w7, Below wr.drew.heap.size wr.drew w7 → (w7.cell? ⟨g1, o1 + k * 6, none⟩ = some (.int .i64 x.n) ∧ w7.cell? ⟨g1, o1 + k * 6 + 1, none⟩ = some (.int .i64 x.mail.id) ∧ w7.cell? ⟨g1, o1 + k * 6 + 2, none⟩ = some (.string (S x.mail.chan)) ∧ w7.cell? ⟨g1, o1 + k * 6 + 3, none⟩ = some (.slice ka x.mail.key.length kc) ∧ w7.cell? ⟨g1, o1 + k * 6 + 4, none⟩ = some (.slice fa x.mail.fields.length fc) ∧ w7.cell? ⟨g1, o1 + k * 6 + 5, none⟩ = some (.int .i64 x.reason)) ∧ (w7.cell? ⟨g2, o2 + k * 6, none⟩ = some (.int .i64 x.n) ∧ w7.cell? ⟨g2, o2 + k * 6 + 1, none⟩ = some (.int .i64 x.mail.id) ∧ w7.cell? ⟨g2, o2 + k * 6 + 2, none⟩ = some (.string (S x.mail.chan)) ∧ w7.cell? ⟨g2, o2 + k * 6 + 3, none⟩ = some (.slice la x.mail.key.length lc) ∧ w7.cell? ⟨g2, o2 + k * 6 + 4, none⟩ = some (.slice ga x.mail.fields.length gc) ∧ w7.cell? ⟨g2, o2 + k * 6 + 5, none⟩ = some (.int .i64 x.reason)) := fun w7 b7 => by
        obtain ⟨p0, p1, p2, p3, p4, p5, _, _⟩ := hm1.below hgw1 b7
        obtain ⟨q0, q1, q2, q3, q4, q5, _, _⟩ := hm2.below hgw2 b7
        exact ⟨⟨p0, p1, p2, p3, p4, p5⟩, ⟨q0, q1, q2, q3, q4, q5⟩⟩
      have HKEEP := Lib.hid hkeep
      have HST := Lib.hid (hkeep wr.drew (Below.refl _ _))
      have HC := Lib.hid (sameDead_refl x hok ka kc fa fc la lc ga gc wr.drew hm1.2.2.2.2.2.2.1 hm1.2.2.2.2.2.2.2 hm2.2.2.2.2.2.2.1 hm2.2.2.2.2.2.2.2)
      clear hkeep hm1 hm2 hok HX HY HOK
      go_wp2_with fail
      go_region_held3 (fun w7 => (w7.cell? ⟨g1, o1 + k * 6, none⟩ = some (.int .i64 x.n) ∧ w7.cell? ⟨g1, o1 + k * 6 + 1, none⟩ = some (.int .i64 x.mail.id) ∧ w7.cell? ⟨g1, o1 + k * 6 + 2, none⟩ = some (.string (S x.mail.chan)) ∧ w7.cell? ⟨g1, o1 + k * 6 + 3, none⟩ = some (.slice ka x.mail.key.length kc) ∧ w7.cell? ⟨g1, o1 + k * 6 + 4, none⟩ = some (.slice fa x.mail.fields.length fc) ∧ w7.cell? ⟨g1, o1 + k * 6 + 5, none⟩ = some (.int .i64 x.reason)) ∧ (w7.cell? ⟨g2, o2 + k * 6, none⟩ = some (.int .i64 x.n) ∧ w7.cell? ⟨g2, o2 + k * 6 + 1, none⟩ = some (.int .i64 x.mail.id) ∧ w7.cell? ⟨g2, o2 + k * 6 + 2, none⟩ = some (.string (S x.mail.chan)) ∧ w7.cell? ⟨g2, o2 + k * 6 + 3, none⟩ = some (.slice la x.mail.key.length lc) ∧ w7.cell? ⟨g2, o2 + k * 6 + 4, none⟩ = some (.slice ga x.mail.fields.length gc) ∧ w7.cell? ⟨g2, o2 + k * 6 + 5, none⟩ = some (.int .i64 x.reason)))
        (first | assumption | exact HST.out | exact HK7.out)
        (first | (go_at_call 28; refine HC.out.mono ?_; rintro e w7 ⟨rfl, b7⟩; have HB7 := Lib.hid b7; have HK7 := Lib.hid (HKEEP.out _ b7); clear b7))
      have HBN := Lib.hid (HBD.out.trans (HB7.out.mono HBD.out.size))
      go_wp2_with fail
      go_roundw
      case rel => exact ⟨k + 1, by omega, by go_num, HBN.out⟩
      case measure => simp [intOf]; omega
    · obtain rfl : k = l.length := by omega
      go_wp2_with fail
      go_ret
      exact ⟨rfl, HB.out⟩

theorem deads_one {w : World} {x : DeadP} {ka fa : Option Addr} {kc fc : Nat} (hk : ValsAt (w.alloc (.cells #[.int .i64 x.n, .int .i64 x.mail.id, .string (S x.mail.chan), .slice ka x.mail.key.length kc, .slice fa x.mail.fields.length fc, .int .i64 x.reason] 46)) ka x.mail.key) (hf : ValsAt (w.alloc (.cells #[.int .i64 x.n, .int .i64 x.mail.id, .string (S x.mail.chan), .slice ka x.mail.key.length kc, .slice fa x.mail.fields.length fc, .int .i64 x.reason] 46)) fa x.mail.fields) :
    DeadsAt (w.alloc (.cells #[.int .i64 x.n, .int .i64 x.mail.id, .string (S x.mail.chan), .slice ka x.mail.key.length kc, .slice fa x.mail.fields.length fc, .int .i64 x.reason] 46)) (some ⟨w.heap.size, 0, none⟩) [x] := fun i hi => by
  obtain rfl : i = 0 := by simpa using hi
  have h1 : BD (w.alloc (.cells #[.int .i64 x.n, .int .i64 x.mail.id, .string (S x.mail.chan), .slice ka x.mail.key.length kc, .slice fa x.mail.fields.length fc, .int .i64 x.reason] 46)) w.heap.size _ _ _ _ _ _ := heap_alloc_new w _
  exact ⟨w.heap.size, 0, ka, kc, fa, fc, rfl, ⟨h1.c0, h1.c1, h1.c2, h1.c3, h1.c4, h1.c5, hk, hf⟩, h1.lt⟩
def shortD (x : DeadP) : Bool := decide (x.mail.key.length ≤ 30) && decide (x.mail.fields.length ≤ 30)
def smallB (l : List DeadP) : Bool := l.all fun x => decide (l.length ≤ 100) && shortD x
theorem smallB_at {l : List DeadP} {k : Nat} (hk : k < l.length) (h : (decide (l.length ≤ 100) && shortD l[k]) = false) : smallB l = false := by
  unfold smallB
  exact List.all_eq_false.2 ⟨l[k], List.getElem_mem _, by rw [h]; simp⟩
theorem smallB_all {l : List DeadP} (h : ∀ k, (hk : k < l.length) → (decide (l.length ≤ 100) && shortD l[k]) = true) : smallB l = true := by
  unfold smallB
  exact List.all_eq_true.2 fun x hx => by obtain ⟨k, hk, rfl⟩ := List.mem_iff_getElem.1 hx; exact h k hk
theorem smallB_ok {l : List DeadP} (hb : ∀ x ∈ l, DBig x) (h : smallB l = true) : l.length ≤ 100 ∧ ∀ x ∈ l, Dok x ∧ Msh x.mail := by
  unfold smallB shortD at h
  have hx : ∀ x ∈ l, l.length ≤ 100 ∧ x.mail.key.length ≤ 30 ∧ x.mail.fields.length ≤ 30 := fun x hx => by
    have := List.all_eq_true.1 h x hx
    simpa using this
  refine ⟨?_, fun x hxm => ⟨⟨hb x hxm, by have := hx x hxm; omega, by have := hx x hxm; omega⟩, ⟨(hb x hxm).mail, by have := hx x hxm; omega, by have := hx x hxm; omega⟩⟩⟩
  cases l with
  | nil => simp
  | cons y r => exact (hx y (by simp)).1

set_option maxRecDepth 100000 in
set_option maxHeartbeats 4000000 in
theorem small_any (l : List DeadP) (hl : l.length ≤ 281474976710656) (hb : ∀ x ∈ l, DBig x) (a : Option Addr) (cap : Nat) (w : World) (hx : DeadsAt w a l) :
    Calls Try.prog 20 #[.slice a l.length cap] w fun e w' => e = .returned (.bool (smallB l)) ∧ Below w.heap.size w w' := by
  have HX := Lib.hid hx
  have HBG := Lib.hid hb
  have hli : (l.length : Int) ≤ 281474976710656 := by omega
  obtain ⟨R, hR⟩ : ∃ R, R = smallB l := ⟨_, rfl⟩
  rw [← hR]
  have HR := Lib.hid hR
  clear hx hb hR
  go_enter Try.func20, Try.ntmps20
  go_wp2_with fail
  go_loopw [7] (fun iv wr => ∃ k : Nat, k ≤ l.length ∧ iv = .int .i64 k ∧ Below w.heap.size w wr ∧ Hid (∀ j, (hj : j < l.length) → j < k → (decide (l.length ≤ 100) && shortD l[j]) = true)) (fun iv _ => l.length - (intOf iv).toNat)
  case atStart => exact ⟨0, by omega, rfl, Below.refl _ _, Lib.hid (fun j _ h => absurd h (by omega))⟩
  case round =>
    obtain ⟨k, hk, rfl, hb, hno⟩ := hrel
    have HB := Lib.hid hb
    by_cases hlt : k < l.length
    · have hki : (k : Int) < (l.length : Int) := by omega
      obtain ⟨b, off, ka, kc, fa, fc, rfl, ⟨v0, v1, v2, v3, v4, v5, _, _⟩, hgl⟩ := HX.out k hlt
      have hbg := HBG.out l[k] (List.getElem_mem _)
      obtain ⟨x, hxe⟩ : ∃ x, x = l[k] := ⟨_, rfl⟩
      rw [← hxe] at v0 v1 v2 v3 v4 v5 hbg
      have p0 := (hb.cell (p := ⟨b, off + k * 6, none⟩) hgl).trans v0
      have p1 := (hb.cell (p := ⟨b, off + k * 6 + 1, none⟩) hgl).trans v1
      have p2 := (hb.cell (p := ⟨b, off + k * 6 + 2, none⟩) hgl).trans v2
      have p3 := (hb.cell (p := ⟨b, off + k * 6 + 3, none⟩) hgl).trans v3
      have p4 := (hb.cell (p := ⟨b, off + k * 6 + 4, none⟩) hgl).trans v4
      have p5 := (hb.cell (p := ⟨b, off + k * 6 + 5, none⟩) hgl).trans v5
      have k0 := (Below.refl wr.heap.size wr).alloc (Nat.le_refl _) (.cells #[.int .i64 x.n, .int .i64 x.mail.id, .string (S x.mail.chan), .slice ka x.mail.key.length kc, .slice fa x.mail.fields.length fc, .int .i64 x.reason] 46)
      have B0 := Lib.hid (hb.trans (k0.mono hb.size))
      have h1 : BD (wr.alloc (.cells #[.int .i64 x.n, .int .i64 x.mail.id, .string (S x.mail.chan), .slice ka x.mail.key.length kc, .slice fa x.mail.fields.length fc, .int .i64 x.reason] 46)) wr.heap.size _ _ _ _ _ _ := heap_alloc_new wr _
      have g3 := h1.c3
      have g4 := h1.c4
      have HXE := Lib.hid hxe
      have hkl := hbg.mail.klen
      have hfl := hbg.mail.flen
      clear hb v0 v1 v2 v3 v4 v5 hxe k0 h1 hbg
      by_cases c1 : l.length ≤ 100
      · have i1 : ¬ (l.length : Int) > 100 := by omega
        by_cases c2 : x.mail.key.length ≤ 30
        · have i2 : ¬ (x.mail.key.length : Int) > 30 := by omega
          by_cases c3 : x.mail.fields.length ≤ 30
          · have i3 : ¬ (x.mail.fields.length : Int) > 30 := by omega
            go_wp2_with fail
            go_roundw
            case rel => exact ⟨k + 1, by omega, by go_num, B0.out, Lib.hid (fun j hj hjk => by
              by_cases e : j = k
              · subst e; rw [← HXE.out]; unfold shortD; simp [c1, c2, c3]
              · exact hno.out j hj (by omega))⟩
            case measure => simp [intOf]; omega
          · have i3 : (x.mail.fields.length : Int) > 30 := by omega
            go_wp2_with fail
            go_ret
            exact ⟨by rw [HR.out, smallB_at hlt (by rw [← HXE.out]; unfold shortD; simp; omega)]; rfl, B0.out⟩
        · have i2 : (x.mail.key.length : Int) > 30 := by omega
          go_wp2_with fail
          go_ret
          exact ⟨by rw [HR.out, smallB_at hlt (by rw [← HXE.out]; unfold shortD; simp; omega)]; rfl, B0.out⟩
      · have i1 : (l.length : Int) > 100 := by omega
        go_wp2_with fail
        go_ret
        exact ⟨by rw [HR.out, smallB_at hlt (by simp; omega)]; rfl, B0.out⟩
    · have hki : ¬ (k : Int) < (l.length : Int) := by omega
      clear hb
      go_wp2_with fail
      go_ret
      exact ⟨by rw [HR.out, smallB_all fun j hj => hno.out j hj (by omega)]; rfl, HB.out⟩

end Go.Proofs.Ytfkmpegbidojoaa.Md
