/-
  The document's own answer for values: rows of values; SameAll.
-/
import Derived.Test.YtfkmpegbidojoaaVaOrder
namespace Go.Proofs.Ytfkmpegbidojoaa.Va
open Go.RowKit

/-- A value in memory: its four cells. -/
def ValAt (w : World) (b o : Nat) (v : V) : Prop := ∃ a cap, w.cell? ⟨b, o, none⟩ = some (.int .i64 v.kind) ∧ w.cell? ⟨b, o + 1, none⟩ = some (.int .i64 v.num) ∧ w.cell? ⟨b, o + 2, none⟩ = some (.string (S v.text)) ∧
  w.cell? ⟨b, o + 3, none⟩ = some (.slice a v.list.length cap) ∧ NumsAt w a v.list
/-- A row of values among the arguments. -/
def ValsAt (w : World) (a : Option Addr) (vs : List V) : Prop := ∀ i, (h : i < vs.length) → ∃ b off, a = some ⟨b, off, none⟩ ∧ ValAt w b (off + i * 4) vs[i] ∧ b < w.heap.size
theorem ValAt.below {w w' : World} {b o : Nat} {v : V} (h : ValAt w b o v) (hl : b < w.heap.size) (k : Below w.heap.size w w') : ValAt w' b o v := by
  obtain ⟨a, cap, h0, h1, h2, h3, h4⟩ := h
  exact ⟨a, cap, (k.cell (p := ⟨b, o, none⟩) hl).trans h0, (k.cell (p := ⟨b, o + 1, none⟩) hl).trans h1, (k.cell (p := ⟨b, o + 2, none⟩) hl).trans h2, (k.cell (p := ⟨b, o + 3, none⟩) hl).trans h3, h4.below k⟩
theorem ValsAt.below {w w' : World} {a : Option Addr} {vs : List V} (h : ValsAt w a vs) (k : Below w.heap.size w w') : ValsAt w' a vs := fun i hi => by
  obtain ⟨b, off, e, hv, hl⟩ := h i hi
  exact ⟨b, off, e, hv.below hl k, Nat.lt_of_lt_of_le hl k.size⟩

def sameL : List V → List V → Bool
  | [], [] => true
  | x :: r, y :: s => sameV x y && sameL r s
  | _, _ => false
theorem sameL_iff : ∀ a b, sameL a b = true ↔ a = b
  | [], [] => by simp [sameL]
  | [], _ :: _ => by simp [sameL]
  | _ :: _, [] => by simp [sameL]
  | x :: r, y :: s => by simp [sameL, sameV_iff, sameL_iff r s]
theorem sameL_at {a b : List V} (k : Nat) (h1 : k < a.length) (h2 : k < b.length) (h : sameV a[k] b[k] = false) : sameL a b = false := by
  cases e : sameL a b with
  | false => rfl
  | true =>
    have := (sameL_iff a b).1 e
    subst this
    rw [(sameV_iff _ _).2 rfl] at h; cases h
theorem sameL_all {a b : List V} (hl : a.length = b.length) (h : ∀ k, (h1 : k < a.length) → (h2 : k < b.length) → sameV a[k] b[k] = true) : sameL a b = true := by
  rw [sameL_iff]
  exact List.ext_getElem hl fun k h1 h2 => (sameV_iff _ _).1 (h k h1 h2)

set_option linter.unusedSimpArgs false
set_option maxRecDepth 100000 in
set_option maxHeartbeats 3200000 in
theorem refSameAll_any (xs ys : List V) (okx : ∀ v ∈ xs, VOk v) (oky : ∀ v ∈ ys, VOk v) (hm : xs.length ≤ 140737488355328) (ax ay : Option Addr) (cx cy : Nat) (w : World) (hx : ValsAt w ax xs) (hy : ValsAt w ay ys) :
    Calls Try.prog 32 #[.slice ax xs.length cx, .slice ay ys.length cy] w fun e w' => e = .returned (.bool (sameL xs ys)) ∧ Below w.heap.size w w' := by
  have HX := Lib.hid hx
  have HY := Lib.hid hy
  have HOX := Lib.hid okx
  have HOY := Lib.hid oky
  clear hx hy okx oky
  by_cases hl : xs.length = ys.length
  · have hfin : (∀ k, (h1 : k < xs.length) → (h2 : k < ys.length) → sameV xs[k] ys[k] = true) → true = sameL xs ys := fun h => (sameL_all hl h).symm
    have hno : ∀ k, (h1 : k < xs.length) → (h2 : k < ys.length) → sameV xs[k] ys[k] = false → false = sameL xs ys := fun k h1 h2 h => (sameL_at k h1 h2 h).symm
    have HFIN := Lib.hid hfin
    have HNO := Lib.hid hno
    have HL := Lib.hid hl
    rw [← hl]
    clear hfin hno hl
    go_enter Try.func32, Try.ntmps32
    go_wp2_with fail
    go_loopw [13] (fun i wr => ∃ k : Nat, k ≤ xs.length ∧ i = .int .i64 k ∧ Hid (∀ j, j < k → (h1 : j < xs.length) → (h2 : j < ys.length) → sameV xs[j] ys[j] = true) ∧ Below w.heap.size w wr) (fun i _ => xs.length - (intOf i).toNat)
    case atStart => exact ⟨0, by omega, rfl, Lib.hid (fun j hj => absurd hj (by omega)), Below.refl _ _⟩
    case round =>
      obtain ⟨k, hk, rfl, hs, hb⟩ := hrel
      have HB := Lib.hid hb
      clear hb
      by_cases hlt : k < xs.length
      · have hlt2 : k < ys.length := by rw [← HL.out]; exact hlt
        obtain ⟨g1, o1, rfl, hv1, hg1⟩ := HX.out k hlt
        obtain ⟨g2, o2, rfl, hv2, hg2⟩ := HY.out k hlt2
        obtain ⟨a1, c1, p0, p1, p2, p3, pn⟩ := hv1.below hg1 HB.out
        obtain ⟨a2, c2, q0, q1, q2, q3, qn⟩ := hv2.below hg2 HB.out
        have ok1 := HOX.out xs[k] (List.getElem_mem _)
        have ok2 := HOY.out ys[k] (List.getElem_mem _)
        have hno := HNO.out k hlt hlt2
        have hsk : sameV xs[k] ys[k] = true → Hid (∀ j, j < k + 1 → (h1 : j < xs.length) → (h2 : j < ys.length) → sameV xs[j] ys[j] = true) := fun e => Lib.hid (fun j hj h1 h2 => by
          by_cases ej : j = k
          · subst ej; exact e
          · exact hs.out j (by omega) h1 h2)
        have hki : (k : Int) < (xs.length : Int) := by omega
        generalize xs[k] = x at *
        generalize ys[k] = y at *
        have hcall := refSame_any x y ok1 ok2 a1 a2 c1 c2 wr.drew pn qn
        obtain ⟨xk, xn, xt, xl⟩ := x
        obtain ⟨yk, yn, yt, yl⟩ := y
        simp only [valC] at hcall
        simp only at p0 p1 p2 p3 q0 q1 q2 q3
        have HC := Lib.hid hcall
        have HNO2 := Lib.hid hno
        have HSK := Lib.hid hsk
        have hkeep : ∀ w7, Below wr.drew.heap.size wr.drew w7 → (w7.cell? ⟨g1, o1 + k * 4, none⟩ = some (.int .i64 xk) ∧ w7.cell? ⟨g1, o1 + k * 4 + 1, none⟩ = some (.int .i64 xn) ∧ w7.cell? ⟨g1, o1 + k * 4 + 2, none⟩ = some (.string (S xt)) ∧ w7.cell? ⟨g1, o1 + k * 4 + 3, none⟩ = some (.slice a1 xl.length c1)) ∧
            (w7.cell? ⟨g2, o2 + k * 4, none⟩ = some (.int .i64 yk) ∧ w7.cell? ⟨g2, o2 + k * 4 + 1, none⟩ = some (.int .i64 yn) ∧ w7.cell? ⟨g2, o2 + k * 4 + 2, none⟩ = some (.string (S yt)) ∧ w7.cell? ⟨g2, o2 + k * 4 + 3, none⟩ = some (.slice a2 yl.length c2)) := fun w7 b7 => by
          have l1 := World.block_lt_of_cell? _ _ p0
          have l2 := World.block_lt_of_cell? _ _ q0
          have m1 : ∀ (o : Nat) v, wr.cell? ⟨g1, o, none⟩ = some v → w7.cell? ⟨g1, o, none⟩ = some v := fun o v h => (b7.cell (p := ⟨g1, o, none⟩) l1).trans h
          have m2 : ∀ (o : Nat) v, wr.cell? ⟨g2, o, none⟩ = some v → w7.cell? ⟨g2, o, none⟩ = some v := fun o v h => (b7.cell (p := ⟨g2, o, none⟩) l2).trans h
          exact ⟨⟨m1 _ _ p0, m1 _ _ p1, m1 _ _ p2, m1 _ _ p3⟩, ⟨m2 _ _ q0, m2 _ _ q1, m2 _ _ q2, m2 _ _ q3⟩⟩
        have HKEEP := Lib.hid hkeep
        have HBD := Lib.hid (show Below w.heap.size w wr.drew from ⟨HB.out.os, HB.out.tape, HB.out.output, HB.out.size, HB.out.block⟩)
        have hst := hkeep wr.drew (Below.refl _ _)
        have HST := Lib.hid hst
        clear hcall hno hsk hkeep hst pn qn ok1 ok2 hs hv1 hv2
        cases hsv : sameV ⟨xk, xn, xt, xl⟩ ⟨yk, yn, yt, yl⟩ with
        | true =>
          have hc := HC.out
          rw [hsv] at hc
          have HC2 := Lib.hid hc
          have hsn := HSK.out hsv
          clear hc hsv
          go_wp2_with fail
          go_region_held3 (fun w7 => (w7.cell? ⟨g1, o1 + k * 4, none⟩ = some (.int .i64 xk) ∧ w7.cell? ⟨g1, o1 + k * 4 + 1, none⟩ = some (.int .i64 xn) ∧ w7.cell? ⟨g1, o1 + k * 4 + 2, none⟩ = some (.string (S xt)) ∧ w7.cell? ⟨g1, o1 + k * 4 + 3, none⟩ = some (.slice a1 xl.length c1)) ∧
            (w7.cell? ⟨g2, o2 + k * 4, none⟩ = some (.int .i64 yk) ∧ w7.cell? ⟨g2, o2 + k * 4 + 1, none⟩ = some (.int .i64 yn) ∧ w7.cell? ⟨g2, o2 + k * 4 + 2, none⟩ = some (.string (S yt)) ∧ w7.cell? ⟨g2, o2 + k * 4 + 3, none⟩ = some (.slice a2 yl.length c2)))
            (first | assumption | exact HST.out | exact HK7.out)
            (first | (go_at_call 42; refine HC2.out.mono ?_; rintro e w7 ⟨rfl, b7⟩; have HB7 := Lib.hid b7; have HK7 := Lib.hid (HKEEP.out _ b7); clear b7))
          have HBN := Lib.hid (HBD.out.trans (HB7.out.mono HB.out.size))
          go_wp2_with fail
          go_roundw
          case rel => exact ⟨k + 1, by omega, by go_num, hsn, HBN.out⟩
          case measure => simp [intOf]; omega
        | false =>
          have hc := HC.out
          rw [hsv] at hc
          have HC2 := Lib.hid hc
          have HR := Lib.hid (HNO2.out hsv)
          clear hc hsv
          go_wp2_with fail
          go_region_held3 (fun w7 => (w7.cell? ⟨g1, o1 + k * 4, none⟩ = some (.int .i64 xk) ∧ w7.cell? ⟨g1, o1 + k * 4 + 1, none⟩ = some (.int .i64 xn) ∧ w7.cell? ⟨g1, o1 + k * 4 + 2, none⟩ = some (.string (S xt)) ∧ w7.cell? ⟨g1, o1 + k * 4 + 3, none⟩ = some (.slice a1 xl.length c1)) ∧
            (w7.cell? ⟨g2, o2 + k * 4, none⟩ = some (.int .i64 yk) ∧ w7.cell? ⟨g2, o2 + k * 4 + 1, none⟩ = some (.int .i64 yn) ∧ w7.cell? ⟨g2, o2 + k * 4 + 2, none⟩ = some (.string (S yt)) ∧ w7.cell? ⟨g2, o2 + k * 4 + 3, none⟩ = some (.slice a2 yl.length c2)))
            (first | assumption | exact HST.out | exact HK7.out)
            (first | (go_at_call 42; refine HC2.out.mono ?_; rintro e w7 ⟨rfl, b7⟩; have HB7 := Lib.hid b7; have HK7 := Lib.hid (HKEEP.out _ b7); clear b7))
          have HBN := Lib.hid (HBD.out.trans (HB7.out.mono HB.out.size))
          go_wp2_with fail
          go_ret
          exact ⟨ret_b HR.out, HBN.out⟩
      · obtain rfl : k = xs.length := by omega
        have HR := Lib.hid (HFIN.out fun j h1 h2 => hs.out j h1 h1 h2)
        clear hs
        go_wp2_with fail
        go_ret
        exact ⟨ret_b HR.out, HB.out⟩
  · have hf : false = sameL xs ys := by
      cases e : sameL xs ys with
      | false => rfl
      | true => exact absurd (congrArg List.length ((sameL_iff _ _).1 e)) hl
    have HF := Lib.hid hf
    have e1 : ((xs.length : Int) == (ys.length : Int)) = false := by simp; omega
    have e2 : (xs.length == ys.length) = false := by simpa using hl
    have e3 : ((xs.length : Int) != (ys.length : Int)) = true := by simp; omega
    clear hf hl
    go_enter Try.func32, Try.ntmps32
    go_wp2_with fail
    go_ret
    exact ⟨ret_b HF.out, Below.refl _ _⟩

end Go.Proofs.Ytfkmpegbidojoaa.Va
