/-
  Several texts in one: VaDec, VaPrint, VaPrintB, VaRows, VaKey.
-/
import Derived.Test.YtkdhchdhgmaolaaZVaOrd
import Derived.Deep.AppendLies
namespace Go.Proofs.Ytkdhchdhgmaolaa.Va
open Go.RowKit

theorem ret_s {a b : ByteArray} (h : a = b) : Ending.returned (.string a) = .returned (.string b) := by rw [h]
theorem digs_small (n : Nat) (h : n < 10) : digs n = [UInt8.ofNat (48 + n)] := by rw [digs, dif_pos h]
theorem digs_big (n : Nat) (h : ¬ n < 10) : digs n = digs (n / 10) ++ [UInt8.ofNat (48 + n % 10)] := by rw [digs, dif_neg h]
theorem digs_len (n : Nat) : ∀ k, n < 10 ^ (k + 1) → (digs n).length ≤ k + 1 := by
  induction n using Nat.strongRecOn with
  | ind n ih =>
    intro k hk
    by_cases h : n < 10
    · rw [digs_small n h]; simp
    · rw [digs_big n h, List.length_append]
      cases k with
      | zero => omega
      | succ k =>
        have := ih (n / 10) (by omega) k (by rw [Nat.pow_succ] at hk; omega)
        simp; omega
theorem digs_len19 (n : Nat) (h : n ≤ 9223372036854775808) : (digs n).length ≤ 19 := digs_len n 18 (by omega)

end Go.Proofs.Ytkdhchdhgmaolaa.Va

namespace Go.Proofs.Ytkdhchdhgmaolaa.Va
open Go.RowKit

def u8C (l : List UInt8) : List Value := l.map fun c => .int .u8 (c.toNat : Int)
/-- Bytes that are collected, in what is new since B. -/
structure Buf (B : Nat) (W0 wr : World) (v : Value) (l : List UInt8) : Prop where
  own : wr.ownsRow B 5 1 v l.length (u8C l)
  below : Below B W0 wr
  hi : B ≤ wr.heap.size
theorem Buf.step {B : Nat} {W0 wr w' : World} {v v' : Value} {l : List UInt8} {c : UInt8} {x : Int} {o : Obj} (h : Buf B W0 wr v l) (hx : x = (c.toNat : Int)) (own : w'.ownsRow B 5 1 v' (l.length + 1) (u8C l ++ [.int .u8 x])) (gr : (wr.alloc o).grownBy w' v.ownBlock) : Buf B W0 w' v' (l ++ [c]) := by
  subst hx
  have hs := h.hi
  refine ⟨?_, (h.below.alloc hs o).grown gr (by simp; omega) (fun k hk => (h.own.lt k hk).1), ?_⟩
  · rw [List.length_append]
    have e : u8C (l ++ [c]) = u8C l ++ [.int .u8 (c.toNat : Int)] := by simp [u8C]
    rw [e]; exact own
  · have := gr.size; simp at this; omega
theorem news_one (w : World) (x : Value) (T : TypeId) (H : Nat) (hH : w.heap.size = H) : ∀ j u, ([x] : List Value)[j]? = some u → (w.alloc (.cells #[x] T)).cell? ((⟨H, 0, none⟩ : Addr).add j) = some u := fun j u hu => by
  subst hH
  rw [Addr.add_mid, cell_of_row _ _ _ _ _ (0, 0) (heap_alloc_new w _), Nat.zero_add]; simpa using hu
theorem one_int (x : Int) : ∀ u ∈ ([.int .u8 x] : List Value), u.oneCell' = true := by
  intro u hu
  simp only [List.mem_singleton] at hu
  subst hu; rfl
theorem escT_len (t : List UInt8) : (escT t).length ≤ 4 * t.length := by
  induction t with
  | nil => simp [escT]
  | cons c t ih =>
    have e1 : escT (c :: t) = esc c ++ escT t := rfl
    have : (esc c).length ≤ 4 := by unfold esc; split <;> (try split) <;> simp
    rw [e1, List.length_append, List.length_cons]; omega
theorem escT_snoc (t : List UInt8) (k : Nat) (h : k < t.length) : escT (t.take (k + 1)) = escT (t.take k) ++ esc (t.getD k 0) := by
  unfold escT
  rw [List.take_succ_eq_append_getElem h, List.flatMap_append]
  simp [List.getD, h]
def HEX : ByteArray := ⟨#[48, 49, 50, 51, 52, 53, 54, 55, 56, 57, 97, 98, 99, 100, 101, 102]⟩
theorem hex_at (k : Nat) (h : k < 16) : HEX.data.toList.getD k 0 = hexC k := by
  have : ∀ i : Fin 16, HEX.data.toList.getD i.val 0 = hexC i.val := by decide
  exact this ⟨k, h⟩
set_option maxRecDepth 100000 in
theorem run_hex (k : Nat) (h : k < 16) (w : World) : (Instr.index 9 (.string ⟨#[48, 49, 50, 51, 52, 53, 54, 55, 56, 57, 97, 98, 99, 100, 101, 102]⟩) (.int .u8 (k : Int))).run Try.prog w = .ok (.int .u8 ((hexC k).toNat : Int)) w := by
  have : ∀ i : Fin 16, ∀ w, (Instr.index 9 (.string ⟨#[48, 49, 50, 51, 52, 53, 54, 55, 56, 57, 97, 98, 99, 100, 101, 102]⟩) (.int .u8 (i.val : Int))).run Try.prog w = .ok (.int .u8 ((hexC i.val).toNat : Int)) w := by
    intro i w
    match i with
    | ⟨0, _⟩ => rfl
    | ⟨1, _⟩ => rfl
    | ⟨2, _⟩ => rfl
    | ⟨3, _⟩ => rfl
    | ⟨4, _⟩ => rfl
    | ⟨5, _⟩ => rfl
    | ⟨6, _⟩ => rfl
    | ⟨7, _⟩ => rfl
    | ⟨8, _⟩ => rfl
    | ⟨9, _⟩ => rfl
    | ⟨10, _⟩ => rfl
    | ⟨11, _⟩ => rfl
    | ⟨12, _⟩ => rfl
    | ⟨13, _⟩ => rfl
    | ⟨14, _⟩ => rfl
    | ⟨15, _⟩ => rfl
    | ⟨k + 16, h⟩ => omega
  exact this ⟨k, h⟩ w

set_option linter.unusedSimpArgs false
end Go.Proofs.Ytkdhchdhgmaolaa.Va

namespace Go.Proofs.Ytkdhchdhgmaolaa.Va
open Go.RowKit

theorem decZ_len (n : Int) (h1 : -9223372036854775808 ≤ n) (h2 : n ≤ 9223372036854775807) : (decZ n).length ≤ 20 := by
  unfold decZ
  split
  · rw [List.length_cons]; have := digs_len19 n.natAbs (by omega); omega
  · have := digs_len19 n.toNat (by omega); omega
theorem numsT_snoc : ∀ (l : List Int) (n : Int), numsT (l ++ [n]) = if l = [] then decZ n else numsT l ++ 44 :: 32 :: decZ n
  | [], n => rfl
  | [m], n => rfl
  | m :: m2 :: r, n => by
    have ih := numsT_snoc (m2 :: r) n
    rw [if_neg (by simp)] at ih ⊢
    show decZ m ++ 44 :: 32 :: numsT ((m2 :: r) ++ [n]) = _
    rw [ih]
    show _ = (decZ m ++ 44 :: 32 :: numsT (m2 :: r)) ++ 44 :: 32 :: decZ n
    simp
theorem numsT_len (l : List Int) (h : ∀ n ∈ l, -9223372036854775808 ≤ n ∧ n ≤ 9223372036854775807) : (numsT l).length ≤ 22 * l.length := by
  induction l with
  | nil => simp [numsT]
  | cons n r ih =>
    have h1 := decZ_len n (h n (by simp)).1 (h n (by simp)).2
    have h2 := ih (fun m hm => h m (by simp [hm]))
    cases r with
    | nil => show (decZ n).length ≤ _; simp; omega
    | cons m r =>
      show (decZ n ++ 44 :: 32 :: numsT (m :: r)).length ≤ _
      simp only [List.length_append, List.length_cons] at h2 ⊢
      omega

/-- The bounds of what is among the arguments. -/
structure VIn (v : V) : Prop where
  num : -9223372036854775808 ≤ v.num ∧ v.num ≤ 9223372036854775807
  text : v.text.length ≤ 100000
  list : v.list.length ≤ 1000
  nums : ∀ n ∈ v.list, -9223372036854775808 ≤ n ∧ n ≤ 9223372036854775807

set_option linter.unusedSimpArgs false
end Go.Proofs.Ytkdhchdhgmaolaa.Va

namespace Go.Proofs.Ytkdhchdhgmaolaa.Va
open Go.RowKit

/-- A value in memory: its four cells. -/
def ValAt (w : World) (b o : Nat) (v : V) : Prop := ∃ a cap, w.cell? ⟨b, o, none⟩ = some (.int .i64 v.kind) ∧ w.cell? ⟨b, o + 1, none⟩ = some (.int .i64 v.num) ∧ w.cell? ⟨b, o + 2, none⟩ = some (.string (S v.text)) ∧
  w.cell? ⟨b, o + 3, none⟩ = some (.slice a v.list.length cap) ∧ NumsAt w a v.list
/-- A row of values among the arguments. -/
def ValsAt (w : World) (a : Option Addr) (vs : List V) : Prop := ∀ i, (h : i < vs.length) → ∃ b off, a = some ⟨b, off, none⟩ ∧ ValAt w b (off + i * 4) vs[i] ∧ b < w.heap.size
theorem ValAt.below {w w' : World} {b o : Nat} {v : V} (h : ValAt w b o v) (hl : b < w.heap.size) (k : Below w.heap.size w w') : ValAt w' b o v := by
  obtain ⟨a, cap, h0, h1, h2, h3, h4⟩ := h
  exact ⟨a, cap, (k.cell (p := ⟨b, o, none⟩) hl).trans h0, (k.cell (p := ⟨b, o + 1, none⟩) hl).trans h1, (k.cell (p := ⟨b, o + 2, none⟩) hl).trans h2, (k.cell (p := ⟨b, o + 3, none⟩) hl).trans h3, h4.below k⟩
theorem ValsAt.below {w w' : World} {a : Option Addr} {vs : List V} (h : ValsAt w a vs) (k : Below w.heap.size w w') : ValsAt w' a vs := fun i hi => by
  obtain ⟨b, off, e, hv, hl⟩ := h i hi
  exact ⟨b, off, e, hv.below hl k, Nat.lt_of_lt_of_le hl k.size⟩

def sameL : List V → List V → Bool
  | [], [] => true
  | x :: r, y :: s => sameV x y && sameL r s
  | _, _ => false
theorem sameL_iff : ∀ a b, sameL a b = true ↔ a = b
  | [], [] => by simp [sameL]
  | [], _ :: _ => by simp [sameL]
  | _ :: _, [] => by simp [sameL]
  | x :: r, y :: s => by simp [sameL, sameV_iff, sameL_iff r s]
theorem sameL_at {a b : List V} (k : Nat) (h1 : k < a.length) (h2 : k < b.length) (h : sameV a[k] b[k] = false) : sameL a b = false := by
  cases e : sameL a b with
  | false => rfl
  | true =>
    have := (sameL_iff a b).1 e
    subst this
    rw [(sameV_iff _ _).2 rfl] at h; cases h
theorem sameL_all {a b : List V} (hl : a.length = b.length) (h : ∀ k, (h1 : k < a.length) → (h2 : k < b.length) → sameV a[k] b[k] = true) : sameL a b = true := by
  rw [sameL_iff]
  exact List.ext_getElem hl fun k h1 h2 => (sameV_iff _ _).1 (h k h1 h2)

set_option linter.unusedSimpArgs false
set_option maxRecDepth 100000 in
set_option maxHeartbeats 3200000 in
theorem refSameAll_any (xs ys : List V) (okx : ∀ v ∈ xs, VOk v) (oky : ∀ v ∈ ys, VOk v) (hm : xs.length ≤ 140737488355328) (ax ay : Option Addr) (cx cy : Nat) (w : World) (hx : ValsAt w ax xs) (hy : ValsAt w ay ys) :
    Calls Try.prog 42 #[.slice ax xs.length cx, .slice ay ys.length cy] w fun e w' => e = .returned (.bool (sameL xs ys)) ∧ Below w.heap.size w w' := by
  have HX := Lib.hid hx
  have HY := Lib.hid hy
  have HOX := Lib.hid okx
  have HOY := Lib.hid oky
  clear hx hy okx oky
  by_cases hl : xs.length = ys.length
  · have hfin : (∀ k, (h1 : k < xs.length) → (h2 : k < ys.length) → sameV xs[k] ys[k] = true) → true = sameL xs ys := fun h => (sameL_all hl h).symm
    have hno : ∀ k, (h1 : k < xs.length) → (h2 : k < ys.length) → sameV xs[k] ys[k] = false → false = sameL xs ys := fun k h1 h2 h => (sameL_at k h1 h2 h).symm
    have HFIN := Lib.hid hfin
    have HNO := Lib.hid hno
    have HL := Lib.hid hl
    rw [← hl]
    clear hfin hno hl
    go_enter Try.func42, Try.ntmps42
    go_wp2_with fail
    go_loopw [13] (fun i wr => ∃ k : Nat, k ≤ xs.length ∧ i = .int .i64 k ∧ Hid (∀ j, j < k → (h1 : j < xs.length) → (h2 : j < ys.length) → sameV xs[j] ys[j] = true) ∧ Below w.heap.size w wr) (fun i _ => xs.length - (intOf i).toNat)
    case atStart => exact ⟨0, by omega, rfl, Lib.hid (fun j hj => absurd hj (by omega)), Below.refl _ _⟩
    case round =>
      obtain ⟨k, hk, rfl, hs, hb⟩ := hrel
      have HB := Lib.hid hb
      clear hb
      by_cases hlt : k < xs.length
      · have hlt2 : k < ys.length := by rw [← HL.out]; exact hlt
        obtain ⟨g1, o1, rfl, hv1, hg1⟩ := HX.out k hlt
        obtain ⟨g2, o2, rfl, hv2, hg2⟩ := HY.out k hlt2
        obtain ⟨a1, c1, p0, p1, p2, p3, pn⟩ := hv1.below hg1 HB.out
        obtain ⟨a2, c2, q0, q1, q2, q3, qn⟩ := hv2.below hg2 HB.out
        have ok1 := HOX.out xs[k] (List.getElem_mem _)
        have ok2 := HOY.out ys[k] (List.getElem_mem _)
        have hno := HNO.out k hlt hlt2
        have hsk : sameV xs[k] ys[k] = true → Hid (∀ j, j < k + 1 → (h1 : j < xs.length) → (h2 : j < ys.length) → sameV xs[j] ys[j] = true) := fun e => Lib.hid (fun j hj h1 h2 => by
          by_cases ej : j = k
          · subst ej; exact e
          · exact hs.out j (by omega) h1 h2)
        have hki : (k : Int) < (xs.length : Int) := by omega
        generalize xs[k] = x at *
        generalize ys[k] = y at *
        have hcall := refSame_any x y ok1 ok2 a1 a2 c1 c2 wr.drew pn qn
        obtain ⟨xk, xn, xt, xl⟩ := x
        obtain ⟨yk, yn, yt, yl⟩ := y
        simp only [valC] at hcall
        simp only at p0 p1 p2 p3 q0 q1 q2 q3
        have HC := Lib.hid hcall
        have HNO2 := Lib.hid hno
        have HSK := Lib.hid hsk
        have hkeep : ∀ w7, Below wr.drew.heap.size wr.drew w7 → (w7.cell? ⟨g1, o1 + k * 4, none⟩ = some (.int .i64 xk) ∧ w7.cell? ⟨g1, o1 + k * 4 + 1, none⟩ = some (.int .i64 xn) ∧ w7.cell? ⟨g1, o1 + k * 4 + 2, none⟩ = some (.string (S xt)) ∧ w7.cell? ⟨g1, o1 + k * 4 + 3, none⟩ = some (.slice a1 xl.length c1)) ∧
            (w7.cell? ⟨g2, o2 + k * 4, none⟩ = some (.int .i64 yk) ∧ w7.cell? ⟨g2, o2 + k * 4 + 1, none⟩ = some (.int .i64 yn) ∧ w7.cell? ⟨g2, o2 + k * 4 + 2, none⟩ = some (.string (S yt)) ∧ w7.cell? ⟨g2, o2 + k * 4 + 3, none⟩ = some (.slice a2 yl.length c2)) := fun w7 b7 => by
          have l1 := World.block_lt_of_cell? _ _ p0
          have l2 := World.block_lt_of_cell? _ _ q0
          have m1 : ∀ (o : Nat) v, wr.cell? ⟨g1, o, none⟩ = some v → w7.cell? ⟨g1, o, none⟩ = some v := fun o v h => (b7.cell (p := ⟨g1, o, none⟩) l1).trans h
          have m2 : ∀ (o : Nat) v, wr.cell? ⟨g2, o, none⟩ = some v → w7.cell? ⟨g2, o, none⟩ = some v := fun o v h => (b7.cell (p := ⟨g2, o, none⟩) l2).trans h
          exact ⟨⟨m1 _ _ p0, m1 _ _ p1, m1 _ _ p2, m1 _ _ p3⟩, ⟨m2 _ _ q0, m2 _ _ q1, m2 _ _ q2, m2 _ _ q3⟩⟩
        have HKEEP := Lib.hid hkeep
        have HBD := Lib.hid (show Below w.heap.size w wr.drew from ⟨HB.out.os, HB.out.tape, HB.out.output, HB.out.size, HB.out.block⟩)
        have hst := hkeep wr.drew (Below.refl _ _)
        have HST := Lib.hid hst
        clear hcall hno hsk hkeep hst pn qn ok1 ok2 hs hv1 hv2
        cases hsv : sameV ⟨xk, xn, xt, xl⟩ ⟨yk, yn, yt, yl⟩ with
        | true =>
          have hc := HC.out
          rw [hsv] at hc
          have HC2 := Lib.hid hc
          have hsn := HSK.out hsv
          clear hc hsv
          go_wp2_with fail
          go_region_held3 (fun w7 => (w7.cell? ⟨g1, o1 + k * 4, none⟩ = some (.int .i64 xk) ∧ w7.cell? ⟨g1, o1 + k * 4 + 1, none⟩ = some (.int .i64 xn) ∧ w7.cell? ⟨g1, o1 + k * 4 + 2, none⟩ = some (.string (S xt)) ∧ w7.cell? ⟨g1, o1 + k * 4 + 3, none⟩ = some (.slice a1 xl.length c1)) ∧
            (w7.cell? ⟨g2, o2 + k * 4, none⟩ = some (.int .i64 yk) ∧ w7.cell? ⟨g2, o2 + k * 4 + 1, none⟩ = some (.int .i64 yn) ∧ w7.cell? ⟨g2, o2 + k * 4 + 2, none⟩ = some (.string (S yt)) ∧ w7.cell? ⟨g2, o2 + k * 4 + 3, none⟩ = some (.slice a2 yl.length c2)))
            (first | assumption | exact HST.out | exact HK7.out)
            (first | (go_at_call 14; refine HC2.out.mono ?_; rintro e w7 ⟨rfl, b7⟩; have HB7 := Lib.hid b7; have HK7 := Lib.hid (HKEEP.out _ b7); clear b7))
          have HBN := Lib.hid (HBD.out.trans (HB7.out.mono HB.out.size))
          go_wp2_with fail
          go_roundw
          case rel => exact ⟨k + 1, by omega, by go_num, hsn, HBN.out⟩
          case measure => simp [intOf]; omega
        | false =>
          have hc := HC.out
          rw [hsv] at hc
          have HC2 := Lib.hid hc
          have HR := Lib.hid (HNO2.out hsv)
          clear hc hsv
          go_wp2_with fail
          go_region_held3 (fun w7 => (w7.cell? ⟨g1, o1 + k * 4, none⟩ = some (.int .i64 xk) ∧ w7.cell? ⟨g1, o1 + k * 4 + 1, none⟩ = some (.int .i64 xn) ∧ w7.cell? ⟨g1, o1 + k * 4 + 2, none⟩ = some (.string (S xt)) ∧ w7.cell? ⟨g1, o1 + k * 4 + 3, none⟩ = some (.slice a1 xl.length c1)) ∧
            (w7.cell? ⟨g2, o2 + k * 4, none⟩ = some (.int .i64 yk) ∧ w7.cell? ⟨g2, o2 + k * 4 + 1, none⟩ = some (.int .i64 yn) ∧ w7.cell? ⟨g2, o2 + k * 4 + 2, none⟩ = some (.string (S yt)) ∧ w7.cell? ⟨g2, o2 + k * 4 + 3, none⟩ = some (.slice a2 yl.length c2)))
            (first | assumption | exact HST.out | exact HK7.out)
            (first | (go_at_call 14; refine HC2.out.mono ?_; rintro e w7 ⟨rfl, b7⟩; have HB7 := Lib.hid b7; have HK7 := Lib.hid (HKEEP.out _ b7); clear b7))
          have HBN := Lib.hid (HBD.out.trans (HB7.out.mono HB.out.size))
          go_wp2_with fail
          go_ret
          exact ⟨ret_b HR.out, HBN.out⟩
      · obtain rfl : k = xs.length := by omega
        have HR := Lib.hid (HFIN.out fun j h1 h2 => hs.out j h1 h1 h2)
        clear hs
        go_wp2_with fail
        go_ret
        exact ⟨ret_b HR.out, HB.out⟩
  · have hf : false = sameL xs ys := by
      cases e : sameL xs ys with
      | false => rfl
      | true => exact absurd (congrArg List.length ((sameL_iff _ _).1 e)) hl
    have HF := Lib.hid hf
    have e1 : ((xs.length : Int) == (ys.length : Int)) = false := by simp; omega
    have e2 : (xs.length == ys.length) = false := by simpa using hl
    have e3 : ((xs.length : Int) != (ys.length : Int)) = true := by simp; omega
    clear hf hl
    go_enter Try.func42, Try.ntmps42
    go_wp2_with fail
    go_ret
    exact ⟨ret_b HF.out, Below.refl _ _⟩

end Go.Proofs.Ytkdhchdhgmaolaa.Va

namespace Go.Proofs.Ytkdhchdhgmaolaa.Va
open Go.RowKit

theorem keyT_snoc : ∀ (l : List V) (v : V), keyT (l ++ [v]) = if l = [] then printV v else keyT l ++ 44 :: printV v
  | [], v => rfl
  | [m], v => rfl
  | m :: m2 :: r, v => by
    have ih := keyT_snoc (m2 :: r) v
    rw [if_neg (by simp)] at ih ⊢
    show printV m ++ 44 :: keyT ((m2 :: r) ++ [v]) = _
    rw [ih]
    show _ = (printV m ++ 44 :: keyT (m2 :: r)) ++ 44 :: printV v
    simp
theorem printV_len (v : V) (ok : VIn v) : (printV v).length ≤ 500000 := by
  have h1 := decZ_len v.num ok.num.1 ok.num.2
  have h2 := escT_len v.text
  have h3 := numsT_len v.list ok.nums
  have h4 := ok.text
  have h5 := ok.list
  unfold printV
  split
  · omega
  · split
    · split <;> simp
    · split
      · simp only [List.length_cons, List.length_append, List.length_nil]; omega
      · split
        · simp only [List.length_cons]; omega
        · split
          · simp only [List.length_cons, List.length_append, List.length_nil]; omega
          · simp
theorem keyT_len (l : List V) (h : ∀ v ∈ l, VIn v) : (keyT l).length ≤ 500001 * l.length := by
  induction l with
  | nil => simp [keyT]
  | cons v r ih =>
    have h1 := printV_len v (h v (by simp))
    have h2 := ih (fun m hm => h m (by simp [hm]))
    cases r with
    | nil => show (printV v).length ≤ _; simp; omega
    | cons m r =>
      show (printV v ++ 44 :: keyT (m :: r)).length ≤ _
      simp only [List.length_append, List.length_cons] at h2 ⊢
      omega

set_option linter.unusedSimpArgs false
end Go.Proofs.Ytkdhchdhgmaolaa.Va
