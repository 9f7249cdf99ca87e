/-
  Find, Concat, Put.
-/
import Derived.Test.YtfkmpegbidojoaaMdFilt
import Derived.Lib.AppendZeros
namespace Go.Proofs.Ytfkmpegbidojoaa.Md
open Go.RowKit
open Va
set_option linter.unusedVariables false
set_option linter.unusedSimpArgs false

def dput (w : World) (H : Nat) (a b c d e f : Value) : World := (((((w.setCell ⟨H, 0, none⟩ a).setCell ⟨H, 1, none⟩ b).setCell ⟨H, 2, none⟩ c).setCell ⟨H, 3, none⟩ d).setCell ⟨H, 4, none⟩ e).setCell ⟨H, 5, none⟩ f
theorem BD.put {w : World} {H : Nat} {a b c d e f : Value} (h : BD w H a b c d e f) (x y z u v t : Value) : BD (dput w H x y z u v t) H x y z u v t :=
  heap_setCell_same _ H 5 _ _ _ (heap_setCell_same _ H 4 _ _ _ (heap_setCell_same _ H 3 _ _ _ (heap_setCell_same _ H 2 _ _ _ (heap_setCell_same _ H 1 _ _ _ (heap_setCell_same w H 0 _ _ _ h)))))
theorem dput_other {w : World} {g b : Nat} (h : b ≠ g) (x y z u v t : Value) : (dput w g x y z u v t).heap[b]? = w.heap[b]? :=
  (Below.heap_setCell _ _ _ _ h).trans ((Below.heap_setCell _ _ _ _ h).trans ((Below.heap_setCell _ _ _ _ h).trans ((Below.heap_setCell _ _ _ _ h).trans ((Below.heap_setCell _ _ _ _ h).trans (Below.heap_setCell _ _ _ _ h)))))
theorem dput_below {B : Nat} {w w' : World} (h : Below B w w') (g : Nat) (hg : B ≤ g) (x y z u v t : Value) : Below B w (dput w' g x y z u v t) :=
  (((((h.setCell (p := ⟨g, 0, none⟩) hg x).setCell (p := ⟨g, 1, none⟩) hg y).setCell (p := ⟨g, 2, none⟩) hg z).setCell (p := ⟨g, 3, none⟩) hg u).setCell (p := ⟨g, 4, none⟩) hg v).setCell (p := ⟨g, 5, none⟩) hg t
theorem res_bd2 {fn : Func} {p u : Tmp} (h : fn.results = #[.cell p 46, .tmp u]) (tmps : Array Value) (w : World) (g : Nat) (a b c d e f x : Value)
    (hp : tmps.getD p undef = .pointer (some ⟨g, 0, none⟩)) (hg : BD w g a b c d e f) (hx : tmps.getD u undef = x) :
    (results fn tmps).run Try.prog w = .ok (.tuple #[.agg #[a, b, c, d, e, f], x]) w := by
  have hp' : tmps[p]?.getD undef = .pointer (some ⟨g, 0, none⟩) := by simpa using hp
  have hx' : tmps[u]?.getD undef = x := by simpa using hx
  have hr := run_loadVar_row (P := Try.prog) w g 46 46 #[a, b, c, d, e, f] (0, 0) _ hg Try.underlying46 rfl (by kernel_rfl)
  simp [results, h, hp', hx', asAddr, hr]

end Go.Proofs.Ytfkmpegbidojoaa.Md
namespace Go.Proofs.Ytfkmpegbidojoaa.Va
open Go.RowKit
open Md (dput dput_other)
theorem TwR.dput {lo g : Nat} {w : World} {a : Option Addr} {vs : List V} {x y z u v t : Value} (h : TwR lo w a vs) (hb : Blk w g 46) : TwR lo (dput w g x y z u v t) a vs :=
  TwR.but h (not_blk hb (by decide) (by decide)) fun b _ hne => dput_other hne _ _ _ _ _ _
end Go.Proofs.Ytfkmpegbidojoaa.Va
namespace Go.Proofs.Ytfkmpegbidojoaa.Md
open Go.RowKit
open Va
set_option linter.unusedVariables false
set_option linter.unusedSimpArgs false

/-- The first letter of this number. -/
def findL (l : List DeadP) (n : Int) : Option DeadP := l.find? fun x => x.n == n
theorem findL_none {l : List DeadP} {n : Int} (h : idxI (fun x => x.n == n) l < 0) : findL l n = none := by
  unfold idxI at h
  cases h2 : l.findIdx? (fun x => x.n == n) with
  | none => exact List.find?_eq_none.2 fun x hx => by have := List.findIdx?_eq_none_iff.1 h2 x hx; simp [this]
  | some i => rw [h2] at h; simp only at h; omega
theorem findL_some {l : List DeadP} {n : Int} (h : ¬ idxI (fun x => x.n == n) l < 0) : ∃ (i : Nat) (x : DeadP), ∃ hi : i < l.length, idxI (fun x => x.n == n) l = i ∧ l[i] = x ∧ findL l n = some x := by
  unfold idxI at h ⊢
  cases h2 : l.findIdx? (fun x => x.n == n) with
  | none => rw [h2] at h; simp only at h; omega
  | some i =>
    obtain ⟨hi, hp, hn⟩ := List.findIdx?_eq_some_iff_getElem.1 h2
    refine ⟨i, l[i], hi, rfl, rfl, ?_⟩
    exact List.find?_eq_some_iff_getElem.2 ⟨hp, i, hi, rfl, fun j hj => by simpa using hn j hj⟩
def zD : Value := .agg #[.int .i64 0, .int .i64 0, .string ⟨#[]⟩, .slice none 0 0, .slice none 0 0, .int .i64 0]
/-- What Find hands out. -/
def Found (o : Option DeadP) (w : World) (e : Ending) (w' : World) : Prop :=
  match o with
  | none => e = .returned (.tuple #[zD, .bool false])
  | some x => ∃ ka kc fa fc, e = .returned (.tuple #[dV x ka kc fa fc, .bool true]) ∧ TwR w.heap.size w' ka x.mail.key ∧ TwR w.heap.size w' fa x.mail.fields
set_option maxRecDepth 100000 in
set_option maxHeartbeats 4000000 in
theorem find_any (l : List DeadP) (hl : l.length ≤ 1000) (cap : Nat) (hlc : l.length ≤ cap) (ok : ∀ x ∈ l, Dok x) (n : Int) (a : Option Addr) (w : World) (hx : DeadsAt w a l) :
    Calls Try.prog 25 #[.slice a l.length cap, .int .i64 n] w fun e w' => Found (findL l n) w e w' ∧ Below w.heap.size w w' := by
  have k0 := (Below.refl w.heap.size w).alloc (Nat.le_refl _) (.cells #[.int .i64 0, .int .i64 0, .string ⟨#[]⟩, .slice none 0 0, .slice none 0 0, .int .i64 0] 46)
  have h0 : BD (w.alloc (.cells #[.int .i64 0, .int .i64 0, .string ⟨#[]⟩, .slice none 0 0, .slice none 0 0, .int .i64 0] 46)) w.heap.size (.int .i64 0) (.int .i64 0) (.string ⟨#[]⟩) (.slice none 0 0) (.slice none 0 0) (.int .i64 0) := heap_alloc_new w _
  obtain ⟨W0, hW0⟩ : ∃ W0, W0 = w.alloc (.cells #[.int .i64 0, .int .i64 0, .string ⟨#[]⟩, .slice none 0 0, .slice none 0 0, .int .i64 0] 46) := ⟨_, rfl⟩
  have HW0 := Lib.hid hW0
  rw [← hW0] at k0 h0
  have HN := Lib.hid (numbered_any n W0)
  have k1 := (Below.refl W0.heap.size W0).alloc (Nat.le_refl _) (.cells #[.int .i64 n] 2)
  have hc0 := cell_of_row _ W0.heap.size 0 _ _ (0, 0) (heap_alloc_new W0 (.cells #[.int .i64 n] 2))
  obtain ⟨W1, hW1⟩ : ∃ W1, W1 = W0.alloc (.cells #[.int .i64 n] 2) := ⟨_, rfl⟩
  rw [← hW1] at k1 hc0 HN
  have b1 := k0.trans (k1.mono k0.size)
  have hf : Asks 45 (.pointer (some ⟨W0.heap.size, 0, none⟩)) (fun x => x.n == n) W1 := fun x ka kc fa fc W hW =>
    numEq_any x ka kc fa fc n W0.heap.size W ((hW.cell (p := ⟨W0.heap.size, 0, none⟩) (World.block_lt_of_cell? _ _ hc0)).trans hc0)
  have HC := Lib.hid (idx_any 45 _ _ l hl a cap W1 (hx.below b1) hf callsF_n)
  have HB1 := Lib.hid b1
  have HD1 := Lib.hid (h0.below k1)
  have HX := Lib.hid hx
  have HOK := Lib.hid ok
  have hli : (l.length : Int) ≤ 1000 := by omega
  obtain ⟨Pst, hPst⟩ : ∃ Pst : Ending → World → Prop, Pst = fun e w' => Found (findL l n) w e w' ∧ Below w.heap.size w w' := ⟨_, rfl⟩
  rw [← hPst]
  have HP := Lib.hid hPst
  obtain ⟨R, hR⟩ : ∃ R, R = idxI (fun x => x.n == n) l := ⟨_, rfl⟩
  rw [← hR] at HC
  have HR := Lib.hid hR
  clear k0 k1 h0 hc0 hW0 hW1 hf hx ok hPst b1 hR
  go_enter Try.func25, Try.ntmps25
  go_wp2_with fail
  rw [← HW0.out]
  refine HN.out.mono ?_
  rintro e w1 ⟨rfl, rfl⟩
  go_wp2_with fail
  refine HC.out.mono ?_
  rintro e w2 ⟨rfl, b2⟩
  have B2 := Lib.hid (HB1.out.trans (b2.mono HB1.out.size))
  have HD2 := Lib.hid (HD1.out.below b2)
  clear b2
  by_cases hneg : R < 0
  · have HF := Lib.hid (findL_none (by rw [← HR.out]; exact hneg))
    have z0 := HD2.out.c0
    have z1 := HD2.out.c1
    have z2 := HD2.out.c2
    have z3 := HD2.out.c3
    have z4 := HD2.out.c4
    have z5 := HD2.out.c5
    have f0 := HD2.out.fz 0
    have f1 := HD2.out.fz 1
    have f2 := HD2.out.fz 2
    have f3 := HD2.out.fz 3
    have f4 := HD2.out.fz 4
    have f5 := HD2.out.fz 5
    go_wp2_with fail
    refine bodyPost_ret (v := .tuple #[zD, .bool false]) (res_bd2 rfl _ _ w.heap.size _ _ _ _ _ _ _ rfl (HD2.out.put _ _ _ _ _ _) rfl) rfl ?_
    rw [HP.out]
    refine ⟨?_, dput_below B2.out _ (Nat.le_refl _) _ _ _ _ _ _⟩
    rw [HF.out]
    rfl
  · obtain ⟨i, x, hi, hRi, hxi, hfo⟩ := findL_some (l := l) (n := n) (by rw [← HR.out]; exact hneg)
    rw [← HR.out] at hRi
    subst hRi
    have HF := Lib.hid hfo
    have hii : (i : Int) < (l.length : Int) := by omega
    obtain ⟨b, off, ka, kc, fa, fc, hae, hdt, hbl⟩ := HX.out i hi
    subst hae
    rw [hxi] at hdt
    have hci : (i : Int) + 1 ≤ (cap : Int) := by omega
    have HT := Lib.hid (twins_any [x] (by simp) (fun y hy => by
      have : y = x := by simpa using hy
      rw [this, ← hxi]
      exact HOK.out _ (List.getElem_mem _)) (some ⟨b, off + i * 6, none⟩) (cap - i) w2 (DeadsAt.below (fun j hj => by
      obtain rfl : j = 0 := by simpa using hj
      exact ⟨b, off + i * 6, ka, kc, fa, fc, rfl, by rw [Nat.zero_mul, Nat.add_zero]; exact hdt, hbl⟩) B2.out))
    simp only [List.length_cons, List.length_nil] at HT
    clear hxi hfo hdt
    go_wp2_with fail
    refine HT.out.mono ?_
    rintro e w3 ⟨⟨a3, c3, rfl, hr3, _⟩, b3⟩
    rcases hr3 with h0 | ⟨G, rfl, hp3⟩
    · cases h0
    · obtain ⟨ka3, kc3, fa3, fc3, hd3, ht3⟩ := hp3.cells 0 x rfl
      obtain ⟨tk3, tf3⟩ := ht3 (by simp)
      obtain ⟨q0, q1, q2, q3, q4, q5⟩ := hd3
      simp only [Nat.zero_mul, Nat.zero_add] at q0 q1 q2 q3 q4 q5
      have d3 := HD2.out.below b3
      have z0 := d3.c0
      have z1 := d3.c1
      have z2 := d3.c2
      have z3 := d3.c3
      have z4 := d3.c4
      have z5 := d3.c5
      have f0 := d3.fz 0
      have f1 := d3.fz 1
      have f2 := d3.fz 2
      have f3 := d3.fz 3
      have f4 := d3.fz 4
      have f5 := d3.fz 5
      have HD3 := Lib.hid d3
      have B3 := Lib.hid (B2.out.trans (b3.mono B2.out.size))
      have TK3 := Lib.hid (TwR.mono (lo := w.heap.size) tk3 B2.out.size)
      have TF3 := Lib.hid (TwR.mono (lo := w.heap.size) tf3 B2.out.size)
      clear hp3 tk3 tf3 d3 b3
      go_wp2_with fail
      refine bodyPost_ret (v := .tuple #[dV x ka3 kc3 fa3 fc3, .bool true]) (res_bd2 rfl _ _ w.heap.size _ _ _ _ _ _ _ rfl (HD3.out.put _ _ _ _ _ _) rfl) rfl ?_
      rw [HP.out]
      refine ⟨?_, dput_below B3.out _ (Nat.le_refl _) _ _ _ _ _ _⟩
      rw [HF.out]
      exact ⟨ka3, kc3, fa3, fc3, rfl, TK3.out.dput HD3.out.blk, TF3.out.dput HD3.out.blk⟩

end Go.Proofs.Ytfkmpegbidojoaa.Md
