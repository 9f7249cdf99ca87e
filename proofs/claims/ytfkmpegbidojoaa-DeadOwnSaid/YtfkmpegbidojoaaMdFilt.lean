/-
  filter, Count, Drop, Find.
-/
import Derived.Test.YtfkmpegbidojoaaMdDFn
namespace Go.Proofs.Ytfkmpegbidojoaa.Md
open Go.RowKit
open Va
set_option linter.unusedVariables false
set_option linter.unusedSimpArgs false

theorem rows_one (w : World) (y : DK) (K : Nat) (hK : w.heap.size = K) : RowsOf (w.alloc (.cells #[.int .i64 y.x.n, .int .i64 y.x.mail.id, .string (S y.x.mail.chan), .slice y.ka y.x.mail.key.length y.kc, .slice y.fa y.x.mail.fields.length y.fc, .int .i64 y.x.reason] 46)) K 0 [y] := fun j u hj => by
  subst hK
  rw [Nat.zero_add, cell_of_row _ w.heap.size j _ _ (0, 0) (heap_alloc_new w _)]
  simpa [dD, DK.cells] using hj
theorem filter_next (p : DeadP → Bool) (l : List DeadP) (k : Nat) (hk : k < l.length) : (l.take (k + 1)).filter p = (l.take k).filter p ++ (if p l[k] then [l[k]] else []) := by
  rw [List.take_succ_eq_append_getElem hk, List.filter_append]
  congr 1
  cases h : p l[k] <;> simp [h]

set_option maxRecDepth 100000 in
set_option maxHeartbeats 4000000 in
theorem filter_any (F : FuncId) (pt : Value) (p : DeadP → Bool) (l : List DeadP) (hl : l.length ≤ 1000) (a : Option Addr) (cap : Nat) (w : World) (hx : DeadsAt w a l) (hf : Asks F pt p w) (hF : CallsF F) :
    Calls Try.prog 38 #[.slice a l.length cap, .func (Fn.func F) #[] #[pt]] w fun e w' => (∃ q d cp, e = .returned (.slice q d.length cp) ∧ d.map (·.x) = l.filter p ∧ DO w.heap.size w w' q d cp) ∧ Below w.heap.size w w' := by
  have HX := Lib.hid hx
  have HF := Lib.hid hf
  have hli : (l.length : Int) ≤ 1000 := by omega
  unfold CallsF at hF
  clear hx hf
  go_enter Try.func38, Try.ntmps38
  go_wp2_with fail
  go_loopw [5, 10] (fun lv iv wr => ∃ (k : Nat) (q : Option Addr) (d : List DK) (cp : Nat), k ≤ l.length ∧ iv = .int .i64 k ∧ lv = .slice q d.length cp ∧ Below w.heap.size w wr ∧ DO w.heap.size w wr q d cp ∧ Hid (d.map (·.x) = (l.take k).filter p)) (fun _ iv _ => l.length - (intOf iv).toNat)
  case atStart => exact ⟨0, none, [], 0, by omega, rfl, rfl, Below.refl _ _, DO.nil _ _ _, Lib.hid (by simp)⟩
  case round =>
    obtain ⟨k, q, d, cp, hk, rfl, rfl, hb, hdo, hdm⟩ := hrel
    have HB := Lib.hid hb
    have HD := Lib.hid hdo
    have hdl : d.length ≤ 1000 := by
      have h1 := congrArg List.length hdm.out
      have h2 := List.length_filter_le p (l.take k)
      rw [List.length_map] at h1
      have h3 : (l.take k).length ≤ l.length := by rw [List.length_take]; omega
      omega
    have HDL := Lib.hid hdl
    clear hdl
    by_cases hlt : k < l.length
    · have hki : (k : Int) < (l.length : Int) := by omega
      obtain ⟨b, off, ka, kc, fa, fc, rfl, ⟨v0, v1, v2, v3, v4, v5, hka, hfa⟩, hgl⟩ := HX.out k hlt
      have HNX := Lib.hid (filter_next p l k hlt)
      obtain ⟨x, hxe⟩ : ∃ x, x = l[k] := ⟨_, rfl⟩
      rw [← hxe] at v0 v1 v2 v3 v4 v5 hka hfa HNX
      have p0 := (hb.cell (p := ⟨b, off + k * 6, none⟩) hgl).trans v0
      have p1 := (hb.cell (p := ⟨b, off + k * 6 + 1, none⟩) hgl).trans v1
      have p2 := (hb.cell (p := ⟨b, off + k * 6 + 2, none⟩) hgl).trans v2
      have p3 := (hb.cell (p := ⟨b, off + k * 6 + 3, none⟩) hgl).trans v3
      have p4 := (hb.cell (p := ⟨b, off + k * 6 + 4, none⟩) hgl).trans v4
      have p5 := (hb.cell (p := ⟨b, off + k * 6 + 5, none⟩) hgl).trans v5
      have k0 := (Below.refl wr.heap.size wr).alloc (Nat.le_refl _) (.cells #[.int .i64 x.n, .int .i64 x.mail.id, .string (S x.mail.chan), .slice ka x.mail.key.length kc, .slice fa x.mail.fields.length fc, .int .i64 x.reason] 46)
      have h1 : BD (wr.alloc (.cells #[.int .i64 x.n, .int .i64 x.mail.id, .string (S x.mail.chan), .slice ka x.mail.key.length kc, .slice fa x.mail.fields.length fc, .int .i64 x.reason] 46)) wr.heap.size (.int .i64 x.n) (.int .i64 x.mail.id) (.string (S x.mail.chan)) (.slice ka x.mail.key.length kc) (.slice fa x.mail.fields.length fc) (.int .i64 x.reason) := heap_alloc_new wr _
      obtain ⟨W1, hW1⟩ : ∃ W1, W1 = wr.alloc (.cells #[.int .i64 x.n, .int .i64 x.mail.id, .string (S x.mail.chan), .slice ka x.mail.key.length kc, .slice fa x.mail.fields.length fc, .int .i64 x.reason] 46) := ⟨_, rfl⟩
      have g0 := h1.c0
      have g1 := h1.c1
      have g2 := h1.c2
      have g3 := h1.c3
      have g4 := h1.c4
      have g5 := h1.c5
      have HW1 := Lib.hid hW1
      rw [← hW1] at k0 h1
      have HD1 := Lib.hid h1
      have HDO1 := Lib.hid (hdo.below k0)
      have b1 := hb.trans (k0.mono hb.size)
      have HB1 := Lib.hid b1
      have HC := Lib.hid (HF.out x ka kc fa fc W1 b1)
      have HKF := Lib.hid (And.intro hka hfa)
      unfold dV at HC
      clear hb hdo v0 v1 v2 v3 v4 v5 hka hfa hxe k0 h1 hW1 b1
      cases hp : p x with
      | true =>
        rw [hp] at HC HNX
        go_wp2_with fail
        rw [← HW1.out]
        refine HC.out.mono ?_
        rintro e w2 ⟨rfl, b2⟩
        have B2 := Lib.hid (HB1.out.trans (b2.mono HB1.out.size))
        have hd2 := HD1.out.below b2
        have hdo2 := HDO1.out.below b2
        clear g0 g1 g2 g3 g4 g5 p0 p1 p2 p3 p4 p5
        have g0 := hd2.c0
        have g1 := hd2.c1
        have g2 := hd2.c2
        have g3 := hd2.c3
        have g4 := hd2.c4
        have g5 := hd2.c5
        have k3 := (Below.refl w2.heap.size w2).alloc (Nat.le_refl _) (.cells #[.int .i64 x.n, .int .i64 x.mail.id, .string (S x.mail.chan), .slice ka x.mail.key.length kc, .slice fa x.mail.fields.length fc, .int .i64 x.reason] 46)
        have b3 := B2.out.trans (k3.mono B2.out.size)
        obtain ⟨q6, cp6, w6, hrun, hdo6, b6, _⟩ := (hdo2.below k3).app b3.size [⟨x, ka, kc, fa, fc⟩] (by have := HDL.out; simp; omega) w2.heap.size 0 1 (rows_one w2 ⟨x, ka, kc, fa, fc⟩ w2.heap.size rfl) (fun y hy => by
          obtain rfl : y = ⟨x, ka, kc, fa, fc⟩ := by simpa using hy
          exact HKF.out)
        have HRUN := Lib.hid hrun
        have HDO6 := Lib.hid hdo6
        have B6 := Lib.hid (b3.trans b6)
        clear b2 hd2 hdo2 k3 b3 hrun hdo6 b6
        go_wp2_with (at_builtin; refine wpList_app rfl _ _ _ _ rfl rfl rfl _ _ HRUN.out ?_)
        go_wp2_with fail
        go_roundw
        case rel => exact ⟨k + 1, q6, d ++ [⟨x, ka, kc, fa, fc⟩], cp6, by omega, by go_num, by rw [List.length_append]; rfl, B6.out, HDO6.out, Lib.hid (by rw [HNX.out, List.map_append, hdm.out]; rfl)⟩
        case measure => simp [intOf]; omega
      | false =>
        rw [hp] at HC HNX
        go_wp2_with fail
        rw [← HW1.out]
        refine HC.out.mono ?_
        rintro e w2 ⟨rfl, b2⟩
        have B2 := Lib.hid (HB1.out.trans (b2.mono HB1.out.size))
        have HDO2 := Lib.hid (HDO1.out.below b2)
        clear b2 g0 g1 g2 g3 g4 g5 p0 p1 p2 p3 p4 p5
        go_wp2_with fail
        go_roundw
        case rel => exact ⟨k + 1, q, d, cp, by omega, by go_num, rfl, B2.out, HDO2.out, Lib.hid (by rw [HNX.out, hdm.out]; simp)⟩
        case measure => simp [intOf]; omega
    · have hki : ¬ (k : Int) < (l.length : Int) := by omega
      have hke : k = l.length := by omega
      have HDM := Lib.hid (show d.map (·.x) = l.filter p by rw [hdm.out, hke, List.take_length])
      clear hb hdo hdm
      go_wp2_with fail
      go_ret
      exact ⟨⟨q, d, cp, rfl, HDM.out, HD.out⟩, HB.out⟩

def countL (l : List DeadP) (r : Int) : Nat := (l.filter fun x => x.reason == r).length
set_option maxRecDepth 100000 in
theorem count_any (l : List DeadP) (hl : l.length ≤ 1000) (r : Int) (a : Option Addr) (cap : Nat) (w : World) (hx : DeadsAt w a l) :
    Calls Try.prog 31 #[.slice a l.length cap, .int .i64 r] w fun e w' => e = .returned (.int .i64 (countL l r)) ∧ Below w.heap.size w w' := by
  have k0 := (Below.refl w.heap.size w).alloc (Nat.le_refl _) (.cells #[.int .i64 r] 3)
  have HK := Lib.hid k0
  have hf : Asks 41 (.pointer (some ⟨w.heap.size, 0, none⟩)) (fun x => x.reason == r) (w.alloc (.cells #[.int .i64 r] 3)) := fun x ka kc fa fc W hW =>
    countEq_any x ka kc fa fc r w.heap.size W ((hW.cell (p := ⟨w.heap.size, 0, none⟩) (by simp)).trans (cell_of_row _ w.heap.size 0 _ _ (0, 0) (heap_alloc_new w _)))
  have HC := Lib.hid (filter_any 41 _ _ l hl a cap _ (hx.below k0) hf callsF_c)
  clear k0 hf hx
  go_enter Try.func31, Try.ntmps31
  go_wp2_with fail
  refine HC.out.mono ?_
  rintro e w2 ⟨⟨q, d, cp, rfl, hd, _⟩, b2⟩
  have B2 := Lib.hid (HK.out.trans (b2.mono HK.out.size))
  have HL : Hid (d.length = countL l r) := Lib.hid (by unfold countL; rw [← hd]; simp)
  clear b2 hd
  go_wp2_with fail
  go_ret
  exact ⟨by rw [HL.out]; rfl, B2.out⟩

/-- What Drop answers. -/
def dropL (l : List DeadP) (n : Int) : List DeadP := l.filter fun x => !(x.n == n)
def Dropped (l : List DeadP) (n : Int) (w : World) (e : Ending) (w' : World) : Prop :=
  if (dropL l n).length = l.length then e = .returned (.tuple #[.slice none 0 0, .int .i64 22]) else ∃ q cp, e = .returned (.tuple #[.slice q (dropL l n).length cp, .int .i64 0]) ∧ DwR w.heap.size w' q (dropL l n) ∧ (dropL l n).length ≤ cp
theorem DwR.mono {lo hi : Nat} {w : World} {a : Option Addr} {l : List DeadP} (h : DwR hi w a l) (k : lo ≤ hi) : DwR lo w a l := by
  rcases h with h | ⟨G, e, h⟩
  · exact .inl h
  · refine .inr ⟨G, e, Nat.le_trans k h.ge, h.blk, fun i x hi => ?_⟩
    obtain ⟨ka, kc, fa, fc, h1, h2⟩ := h.cells i x hi
    exact ⟨ka, kc, fa, fc, h1, fun hk => ⟨(h2 hk).1.mono k, (h2 hk).2.mono k⟩⟩
set_option maxRecDepth 100000 in
set_option maxHeartbeats 4000000 in
theorem drop_any (l : List DeadP) (hl : l.length ≤ 1000) (ok : ∀ x ∈ l, Dok x) (n : Int) (a : Option Addr) (cap : Nat) (w : World) (hx : DeadsAt w a l) :
    Calls Try.prog 23 #[.slice a l.length cap, .int .i64 n] w fun e w' => Dropped l n w e w' ∧ Below w.heap.size w w' := by
  have HN := Lib.hid (numbered_any n w)
  have k1 := (Below.refl w.heap.size w).alloc (Nat.le_refl _) (.cells #[.int .i64 n] 2)
  have k2 := k1.alloc (by simp) (.cells #[.func (Fn.func 45) #[] #[.pointer (some ⟨w.heap.size, 0, none⟩)]] 72)
  have hc0 : ((w.alloc (.cells #[.int .i64 n] 2)).alloc (.cells #[.func (Fn.func 45) #[] #[.pointer (some ⟨w.heap.size, 0, none⟩)]] 72)).cell? ⟨w.heap.size, 0, none⟩ = some (.int .i64 n) :=
    (((Below.refl _ _).alloc (Nat.le_refl _) _).cell (p := ⟨w.heap.size, 0, none⟩) (by simp)).trans (cell_of_row _ w.heap.size 0 _ _ (0, 0) (heap_alloc_new w _))
  have hc1 : ((w.alloc (.cells #[.int .i64 n] 2)).alloc (.cells #[.func (Fn.func 45) #[] #[.pointer (some ⟨w.heap.size, 0, none⟩)]] 72)).cell? ⟨w.heap.size + 1, 0, none⟩ = some (.func (Fn.func 45) #[] #[.pointer (some ⟨w.heap.size, 0, none⟩)]) := by
    have := heap_alloc_new (w.alloc (.cells #[.int .i64 n] 2)) (.cells #[.func (Fn.func 45) #[] #[.pointer (some ⟨w.heap.size, 0, none⟩)]] 72)
    rw [show (w.alloc (.cells #[.int .i64 n] 2)).heap.size = w.heap.size + 1 by simp] at this
    exact cell_of_row _ (w.heap.size + 1) 0 _ _ (0, 0) this
  obtain ⟨W2, hW2⟩ : ∃ W2, W2 = (w.alloc (.cells #[.int .i64 n] 2)).alloc (.cells #[.func (Fn.func 45) #[] #[.pointer (some ⟨w.heap.size, 0, none⟩)]] 72) := ⟨_, rfl⟩
  rw [← hW2] at k2 hc0 hc1
  have hf : Asks 39 (.pointer (some ⟨w.heap.size + 1, 0, none⟩)) (fun x => !(x.n == n)) W2 := fun x ka kc fa fc W hW =>
    dropNe_any x ka kc fa fc n (w.heap.size + 1) w.heap.size W ((hW.cell (p := ⟨w.heap.size + 1, 0, none⟩) (World.block_lt_of_cell? _ _ hc1)).trans hc1) ((hW.cell (p := ⟨w.heap.size, 0, none⟩) (World.block_lt_of_cell? _ _ hc0)).trans hc0)
  have HC := Lib.hid (filter_any 39 _ _ l hl a cap W2 (hx.below k2) hf callsF_d)
  have HK2 := Lib.hid k2
  have HW2 := Lib.hid hW2
  have HOK := Lib.hid ok
  have hli : (l.length : Int) ≤ 1000 := by omega
  obtain ⟨Pst, hPst⟩ : ∃ Pst : Ending → World → Prop, Pst = fun e w' => Dropped l n w e w' ∧ Below w.heap.size w w' := ⟨_, rfl⟩
  rw [← hPst]
  have HP := Lib.hid hPst
  clear k1 k2 hc0 hc1 hW2 hf hx ok hPst
  have hst := fun a m (W : World) => run_store Try.prog W a (.func (Fn.func 45) #[] #[.pointer (some ⟨w.heap.size, 0, none⟩)]) m rfl
  go_enter Try.func23, Try.ntmps23
  go_wp2_with fail
  refine HN.out.mono ?_
  rintro e w1 ⟨rfl, rfl⟩
  go_wp2_with fail
  rw [← HW2.out]
  refine HC.out.mono ?_
  rintro e w3 ⟨⟨q, d, cp, rfl, hd, hdo⟩, b3⟩
  have B3 := Lib.hid (HK2.out.trans (b3.mono HK2.out.size))
  have hdl : d.length = (dropL l n).length := by unfold dropL; rw [← hd]; simp
  have hle : (dropL l n).length ≤ l.length := List.length_filter_le _ _
  have HDL := Lib.hid hdl
  have HDD : Hid (DeadsAt w3 q (dropL l n)) := Lib.hid (by have := hdo.deads b3; rw [hd] at this; exact this)
  clear hd hdo b3
  by_cases hz : (dropL l n).length = l.length
  · have e1 : ((d.length : Int) == (l.length : Int)) = true := by simp; omega
    have HZ := Lib.hid hz
    clear hz hdl hle
    go_wp2_with fail
    rw [HP.out]
    refine ⟨?_, B3.out⟩
    unfold Dropped
    rw [if_pos HZ.out]
    rfl
  · have e1 : ((d.length : Int) == (l.length : Int)) = false := by simp; omega
    have HT := Lib.hid (twins_any (dropL l n) (by omega) (fun x hx => HOK.out x ((List.mem_filter.1 hx).1)) q cp w3 HDD.out)
    rw [← hdl] at HT
    have HZ := Lib.hid hz
    clear hz hdl hle
    go_wp2_with fail
    refine HT.out.mono ?_
    rintro e w4 ⟨⟨q4, cp4, rfl, hr4, hc4⟩, b4⟩
    have HC4 := Lib.hid hc4
    clear hc4
    have B4 := Lib.hid (B3.out.trans (b4.mono B3.out.size))
    have HR4 : Hid (DwR w.heap.size w4 q4 (dropL l n)) := Lib.hid (DwR.mono hr4 B3.out.size)
    clear b4 hr4 e1
    go_wp2_with fail
    rw [HP.out]
    refine ⟨?_, B4.out⟩
    unfold Dropped
    rw [if_neg HZ.out]
    exact ⟨q4, cp4, by rw [← HDL.out]; rfl, HR4.out, by rw [← HDL.out]; exact HC4.out⟩

end Go.Proofs.Ytfkmpegbidojoaa.Md
