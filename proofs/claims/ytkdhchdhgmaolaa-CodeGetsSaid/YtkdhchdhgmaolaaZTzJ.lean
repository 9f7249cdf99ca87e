/-
  Several texts in one: CdRdI, CdRdJ, CdRdK, CdRdO.
-/
import Derived.Test.YtkdhchdhgmaolaaZTzG
namespace Go.Proofs.Ytkdhchdhgmaolaa.Cd
open Go.RowKit
open Pk Va
set_option linter.unusedVariables false
set_option linter.unusedSimpArgs false

def pCnt (l : List UInt8) (b : Nat) : Rs Int := ((((pSmall 1000 l b).1 : Nat) : Int), (pSmall 1000 l b).2)
set_option maxRecDepth 100000 in
theorem count_r (H r R : Nat) (l : List UInt8) (hl : l.length ≤ 2000000) (bad : Nat) (w : World) (h : RdrR H r R l bad w) :
    Calls Try.prog 83 #[.pointer (some ⟨r, 0, none⟩)] w fun e w' => e = .returned (.int .i64 (pCnt l bad).1) ∧ RdTo H r (pCnt l bad).2.1 (pCnt l bad).2.2 w w' := by
  have c0 := h.c0
  have HT := Lib.hid (rSmall_k R l hl bad 1000 (by omega) (by omega) w h.2.2.2.2)
  have HH := Lib.hid h
  unfold pCnt pSmall
  generalize rdG 0 (decS l 1000) l bad = x at *
  clear h
  go_enter Try.func83, Try.ntmps83
  go_wp2_with fail
  refine HT.out.mono ?_
  rintro e w1 ⟨rfl, r1, o1⟩
  have T1 := Lib.hid (HH.out.step r1 o1).2
  clear r1 o1
  go_wp2_with fail
  go_ret
  exact ⟨rfl, T1.out⟩
theorem ne_int : 3 ≠ 133 ∧ 3 ≠ 171 := by decide
theorem infoI : (Try.prog.info? 3).map (fun i => (i.zero, i.size, i.bytes)) = some (some (.int .i64 0), 1, 8) := by kernel_rfl
/-- A counter that is appended. -/
theorem app_int1 (B : Nat) (v : Value) (m : Nat) (xs : List Int) (w : World) (hown : w.ownsRow B 3 1 v m (i64C xs)) (x : Int) (hm : m + 1 ≤ 1000000) (hB : B ≤ w.heap.size) (H : Nat) (hH : w.heap.size = H) :
    ∃ q c w', (Builtin.append_ #[38, 38] 38 #[v, .slice (some ⟨H, 0, none⟩) 1 1]).run Try.prog (w.alloc (.cells #[.int .i64 x] 3)) = .ok (.slice q (m + 1) c) w' ∧ w'.ownsRow B 3 1 (.slice q (m + 1) c) (m + 1) (i64C (xs ++ [x])) ∧ (w.alloc (.cells #[.int .i64 x] 3)).grownBy w' v.ownBlock := by
  subst hH
  obtain ⟨i0, hi, hz0, hz1, hz2⟩ := info_pt infoI
  have hnew := heap_alloc_new w (.cells #[.int .i64 x] 3)
  have hs1 : (w.alloc (.cells #[.int .i64 x] 3)).heap.size = w.heap.size + 1 := by simp
  have hA := World.ownsRow.alloc hown (.cells #[.int .i64 x] 3)
  have hnews : ∀ j u, (i64C [x])[j]? = some u → (w.alloc (.cells #[.int .i64 x] 3)).cell? ((⟨w.heap.size, 0, none⟩ : Addr).add j) = some u := by
    intro j u hj
    have hadd : (⟨w.heap.size, 0, none⟩ : Addr).add j = ⟨w.heap.size, j, none⟩ := by unfold Addr.add; split <;> simp_all
    rw [hadd, cell_of_row _ w.heap.size j _ _ (0, 0) hnew]
    simpa [i64C] using hj
  have h1 : ∀ u ∈ i64C [x], u.oneCell' = true := by
    intro u hu
    simp only [i64C, List.mem_map] at hu
    obtain ⟨n, _, rfl⟩ := hu
    rfl
  obtain ⟨v', w', hr, h2, h3, _⟩ := run_append_own (P := Try.prog) (w.alloc (.cells #[.int .i64 x] 3)) B 38 38 3 i0 (.int .i64 0) 1 8 Try.underlying38 hi hz0 hz1 hz2 rfl (by decide) v m (i64C xs) hA ⟨w.heap.size, 0, none⟩ 1 1 (i64C [x]) rfl hnews h1 (by unfold maxLen; omega) (by omega) (by omega)
  rw [← i64C_append] at h2
  rcases h2.2 with ⟨_, h0⟩ | ⟨g, cap, cur, rfl, r⟩
  · simp at h0
  · exact ⟨_, cap, w', hr, h2, h3⟩
theorem owned_ints {w : World} {B n : Nat} {v : Value} {l : List Int} (h : w.ownsRow B 3 1 v n (i64C l)) (hn : n = l.length) : ∃ a c, v = .slice a l.length c ∧ NumsAt w a l := by
  subst hn
  rcases h.2 with ⟨rfl, h0⟩ | ⟨g, cap, cur, rfl, _, hg, _⟩
  · have : l = [] := List.length_eq_zero_iff.1 h0
    subst this
    exact ⟨none, 0, rfl, fun i hi => absurd hi (by simp)⟩
  · refine ⟨some ⟨g, 0, none⟩, cap, rfl, fun i hi => ⟨g, 0, rfl, ?_, lt_of_heapV hg⟩⟩
    have := h.cellAt i (by omega)
    rw [Nat.zero_add, this]
    simp [i64C, List.getD, hi]

set_option maxRecDepth 100000 in
set_option maxHeartbeats 4000000 in
theorem allC_r (H r R : Nat) (l : List UInt8) (hl : l.length ≤ 2000000) (bad : Nat) (w : World) (h : RdrR H r R l bad w) :
    Calls Try.prog 82 #[.pointer (some ⟨r, 0, none⟩), .int .i64 16, .func (Fn.func 83) #[] #[]] w fun e w' =>
      ∃ q cap, e = .returned (.slice q (pAll pCnt 16 l bad).1.length cap) ∧ RdTo H r (pAll pCnt 16 l bad).2.1 (pAll pCnt 16 l bad).2.2 w w' ∧ NumsAt w' q (pAll pCnt 16 l bad).1 ∧ ∀ g off, q = some ⟨g, off, none⟩ → (pAll pCnt 16 l bad).1 ≠ [] → w.heap.size ≤ g ∧ OffR r g w' := by
  have c0 := h.c0
  have HSM := Lib.hid (rSmall_k R l hl bad 16 (by omega) (by omega) w h.2.2.2.2)
  have hn16 := pSmall_le 16 (by omega) l bad
  have hsh : (pSmall 16 l bad).2.1.length ≤ 2000000 := Nat.le_trans (rdG_short _ _ _ _) hl
  unfold pAll
  unfold pSmall at *
  generalize rdG 0 (decS l 16) l bad = y at *
  obtain ⟨n, l1, b1⟩ := y
  simp only at HSM hn16 hsh ⊢
  obtain ⟨X, hX⟩ : ∃ X, X = pLoop pCnt n [] l1 b1 := ⟨_, rfl⟩
  rw [← hX]
  have HX := Lib.hid hX
  have HH := Lib.hid h
  have HSH := Lib.hid hsh
  clear h hX hsh
  go_enter Try.func82, Try.ntmps82
  go_wp2_with fail
  refine HSM.out.mono ?_
  rintro e w1 ⟨rfl, r1, o1⟩
  have T1 := Lib.hid (HH.out.step r1 o1).2
  clear r1 o1 HSM
  go_wp2_with fail
  go_loopw [7, 15] (fun lv iv wr => ∃ (i : Nat) (acc : List Int) (li : List UInt8) (bi : Nat) (q : Option Addr) (cap : Nat), i ≤ n ∧ iv = .int .i64 i ∧ lv = .slice q acc.length cap ∧ acc.length ≤ i ∧ wr.ownsRow w.heap.size 3 1 (.slice q acc.length cap) acc.length (i64C acc) ∧ RdTo H r li bi w wr ∧ li.length ≤ 2000000 ∧ X = pLoop pCnt (n - i) acc li bi) (fun _ iv _ => n - (intOf iv).toNat)
  case atStart => exact ⟨0, [], l1, b1, none, 0, Nat.zero_le _, rfl, rfl, by simp, World.ownsRow_nil _ _ _ _, T1.out, HSH.out, HX.out⟩
  case round =>
    obtain ⟨i, acc, li, bi, q, cap, hin, rfl, rfl, hai, hown, ht, hli, hx⟩ := hrel
    obtain ⟨Ri, hRi⟩ := ht.rdr
    have c0 := hRi.c0
    by_cases hlt : i < n
    · have hii : (i : Int) < (n : Int) := by omega
      have hoff := off_row hRi hown ne_int.1 ne_int.2
      have HC := Lib.hid (count_r H r Ri li hli bi wr hRi)
      have hsub : n - i = (n - (i + 1)) + 1 := by omega
      rw [hsub] at hx
      unfold pLoop at hx
      have hsh2 : (pCnt li bi).2.1.length ≤ 2000000 := Nat.le_trans (rdG_short _ _ _ _) hli
      generalize pCnt li bi = z at *
      obtain ⟨x, l2, b2⟩ := z
      simp only at HC hx hsh2
      have HXX := Lib.hid hx
      have HT := Lib.hid ht
      have HRI := Lib.hid hRi
      have HOWN := Lib.hid hown
      have HOFF := Lib.hid hoff
      have HAI := Lib.hid hai
      have HSH2 := Lib.hid hsh2
      clear hx ht hown hoff hsub hai hsh2 hRi
      go_wp2_with fail
      refine HC.out.mono ?_
      rintro e w3 ⟨rfl, t3⟩
      obtain ⟨R3, hR3⟩ := t3.rdr
      have c03 := hR3.c0
      have HB3 := Lib.hid (bad_any R3 l2 b2 w3 hR3.2.2.2.2)
      have HR3 := Lib.hid hR3
      have T3 := Lib.hid (HT.out.trans t3)
      have hown3 := own_keep t3 HOWN.out HOFF.out
      have HOWN3 := Lib.hid hown3
      clear t3 hR3 hown3 c0
      by_cases hb2 : b2 = 0
      · subst hb2
        have hw3 : w.heap.size ≤ w3.heap.size := T3.out.size
        have hx3 := HXX.out
        rw [if_neg (by omega)] at hx3
        obtain ⟨q4, c4, w4, hrun, hown4, hgrow⟩ := app_int1 w.heap.size (.slice q acc.length cap) acc.length acc w3 HOWN3.out x (by have := HAI.out; omega) hw3 w3.heap.size rfl
        have kk := (Below.refl w3.heap.size w3).alloc (Nat.le_refl _) (.cells #[.int .i64 x] 3)
        have hoff4 := off_row (HR3.out.below kk) (World.ownsRow.alloc HOWN3.out (.cells #[.int .i64 x] 3)) ne_int.1 ne_int.2
        have HT4 := Lib.hid ((T3.out.trans (RdTo.of_below HR3.out kk)).grown (Nat.le_trans HH.out.size (Nat.le_refl _)) hgrow (fun g hg => ⟨(World.ownsRow.lt HOWN3.out g hg).1, hoff4 g hg⟩))
        have HRUN := Lib.hid hrun
        have HO4 := Lib.hid (show w4.ownsRow w.heap.size 3 1 (.slice q4 (acc ++ [x]).length c4) (acc ++ [x]).length (i64C (acc ++ [x])) by rw [List.length_append]; exact hown4)
        have HX4 := Lib.hid hx3
        clear hrun hown4 hgrow kk hoff4 hx3
        go_wp2_with fail
        refine HB3.out.mono ?_
        rintro e w5 ⟨rfl, rfl⟩
        go_wp2_with (at_builtin; refine wpList_app rfl _ _ _ _ rfl rfl rfl _ _ HRUN.out ?_)
        go_wp2_with fail
        go_roundw
        case rel => exact ⟨i + 1, acc ++ [x], l2, 0, q4, c4, by omega, by go_num, by rw [List.length_append]; rfl, by have := HAI.out; simp; omega, HO4.out, HT4.out, HSH2.out, HX4.out⟩
        case measure => simp [intOf]; omega
      · have h3 := (err_ne b2 hb2).1
        have hx3 := HXX.out
        rw [if_pos (by omega)] at hx3
        have HX4 := Lib.hid hx3
        clear hx3 hb2
        go_wp2_with fail
        refine HB3.out.mono ?_
        rintro e w5 ⟨rfl, rfl⟩
        go_wp2_with fail
        go_ret
        rw [HX4.out]
        exact ⟨none, 0, rfl, T3.out, fun i hi => absurd hi (by simp), fun _ _ e => by cases e⟩
    · have hie : i = n := by omega
      have hii : ¬ (i : Int) < (n : Int) := by omega
      rw [hie, Nat.sub_self] at hx
      unfold pLoop at hx
      obtain ⟨a', c', he', hnums⟩ := owned_ints hown rfl
      have hoff := off_row hRi hown ne_int.1 ne_int.2
      have hfr : ∀ g off, q = some ⟨g, off, none⟩ → acc ≠ [] → w.heap.size ≤ g ∧ OffR r g wr := fun g off e _ => by
        subst e
        have hg : (Value.slice (some ⟨g, off, none⟩) acc.length cap).ownBlock = some g := rfl
        exact ⟨(World.ownsRow.lt hown g hg).1, hoff g hg⟩
      obtain ⟨rfl, rfl⟩ : q = a' ∧ cap = c' := by injection he' with e1 _ e3; exact ⟨e1, e3⟩
      have HT := Lib.hid ht
      have HNS := Lib.hid hnums
      have HFR := Lib.hid hfr
      have HXX := Lib.hid hx
      clear ht hnums hfr hx hown hoff hRi he'
      go_wp2_with fail
      go_ret
      rw [HXX.out]
      exact ⟨q, ⟨cap, rfl⟩, HT.out, HNS.out, HFR.out⟩

end Go.Proofs.Ytkdhchdhgmaolaa.Cd

namespace Go.Proofs.Ytkdhchdhgmaolaa.Cd
open Go.RowKit
open Pk Va
set_option linter.unusedVariables false
set_option linter.unusedSimpArgs false

/-- A message in memory, with its two rows. -/
structure MK where
  id : Int
  chan : List UInt8
  ka : Option Addr
  dk : List (V × Option Addr × Nat)
  kc : Nat
  fa : Option Addr
  df : List (V × Option Addr × Nat)
  fc : Nat
def MK.mail (y : MK) : MailP := ⟨y.id, y.chan, y.dk.map (·.1), y.df.map (·.1)⟩
def MK.cells (y : MK) : List Value := [.int .i64 y.id, .string (S y.chan), .slice y.ka y.dk.length y.kc, .slice y.fa y.df.length y.fc]
def dM (d : List MK) : List Value := d.flatMap MK.cells
/-- Block g0 is none of a row's. -/
def NoBlk (g0 : Nat) (q : Option Addr) (d : List (V × Option Addr × Nat)) (cap : Nat) : Prop :=
  some g0 ≠ (Value.slice q d.length cap).ownBlock ∧ ∀ y ∈ d, ∀ g off, y.2.1 = some ⟨g, off, none⟩ → y.1.list ≠ [] → g ≠ g0
theorem NoBlk.lt {B r cap g0 : Nat} {w : World} {q : Option Addr} {d : List (V × Option Addr × Nat)} (h : VRow B r w q d cap) (hg : g0 < B) : NoBlk g0 q d cap :=
  ⟨fun e => by have := (World.ownsRow.lt h.own g0 e.symm).1; omega, fun y hy g off e hn => by have := ((h.nums y hy).2 g off e hn).2.2; omega⟩
theorem NoBlk.ge {B r cap g0 : Nat} {w : World} {q : Option Addr} {d : List (V × Option Addr × Nat)} (h : VRow B r w q d cap) (hg : w.heap.size ≤ g0) : NoBlk g0 q d cap :=
  ⟨fun e => by have := (World.ownsRow.lt h.own g0 e.symm).2; omega, fun y hy g off e hn => by have := ((h.nums y hy).2 g off e hn).1.2.1; omega⟩
theorem VRow.grown {B r cap : Nat} {w w' : World} {q : Option Addr} {d : List (V × Option Addr × Nat)} {row : Option Nat} (h : VRow B r w q d cap) (g : w.grownBy w' row) (hr : ∀ g0, row = some g0 → NoBlk g0 q d cap ∧ g0 ≠ r) (hlt : r < w.heap.size) : VRow B r w' q d cap := by
  have hrr : w'.heap[r]? = w.heap[r]? := g.block r hlt (fun e => (hr r e.symm).2 rfl)
  have hb : ∀ y ∈ d, ∀ b off, y.2.1 = some ⟨b, off, none⟩ → y.1.list ≠ [] → w'.heap[b]? = w.heap[b]? := fun y hy b off e hn => g.block b ((h.nums y hy).2 b off e hn).1.2.1 (fun e2 => (hr b e2.symm).1.2 y hy b off e hn rfl)
  refine ⟨⟨h.own.1, ?_⟩, fun y hy => ⟨NumsAt.of_block (h.nums y hy).1 g.size (hb y hy), fun b off e hn => ?_⟩⟩
  · rcases h.own.2 with h0 | ⟨b, cap2, cur, e, hB, hc, rest⟩
    · exact .inl h0
    · have hlt2 : b < w.heap.size := lt_of_heapV hc
      refine .inr ⟨b, cap2, cur, e, hB, (g.block b hlt2 (fun e2 => ?_)).trans hc, rest⟩
      have := (hr b e2.symm).1.1
      injection e with e3 _ _
      subst e3
      exact this rfl
  · obtain ⟨⟨a1, a2, R2, a3, a4⟩, n2, n3⟩ := (h.nums y hy).2 b off e hn
    exact ⟨⟨a1, Nat.lt_of_lt_of_le a2 g.size, R2, hrr.trans a3, a4⟩, n2, n3⟩
structure MRow (B r : Nat) (w : World) (q : Option Addr) (d : List MK) (cap : Nat) : Prop where
  own : w.ownsRow B 33 4 (.slice q d.length cap) d.length (dM d)
  rows : ∀ y ∈ d, VRow B r w y.ka y.dk y.kc ∧ VRow B r w y.fa y.df y.fc ∧ ∀ g0, (Value.slice q d.length cap).ownBlock = some g0 → NoBlk g0 y.ka y.dk y.kc ∧ NoBlk g0 y.fa y.df y.fc
theorem ne_mail : 33 ≠ 133 ∧ 33 ≠ 171 := by decide
theorem MRow.nil (B r : Nat) (w : World) : MRow B r w none [] 0 := ⟨World.ownsRow_nil _ _ _ _, fun y hy => by simp at hy⟩
theorem MRow.keep {B H r R cap : Nat} {l l' : List UInt8} {b b' : Nat} {w w' : World} {q : Option Addr} {d : List MK} (h : MRow B r w q d cap) (hR : RdrR H r R l b w) (t : RdTo H r l' b' w w') : MRow B r w' q d cap :=
  ⟨own_keep t h.own (off_row hR h.own ne_mail.1 ne_mail.2), fun y hy => ⟨(h.rows y hy).1.keep hR t, (h.rows y hy).2.1.keep hR t, (h.rows y hy).2.2⟩⟩
theorem MRow.below {B H r R cap : Nat} {l : List UInt8} {b : Nat} {w w' : World} {q : Option Addr} {d : List MK} (h : MRow B r w q d cap) (hR : RdrR H r R l b w) (k : Below w.heap.size w w') : MRow B r w' q d cap := h.keep hR (RdTo.of_below hR k)
theorem MRow.mono {B B' r cap : Nat} {w : World} {q : Option Addr} {d : List MK} (h : MRow B r w q d cap) (hB : B' ≤ B) : MRow B' r w q d cap := by
  refine ⟨⟨h.own.1, ?_⟩, fun y hy => ⟨(h.rows y hy).1.mono hB, (h.rows y hy).2.1.mono hB, (h.rows y hy).2.2⟩⟩
  rcases h.own.2 with h0 | ⟨g, cap2, cur, e, hb, rest⟩
  · exact .inl h0
  · exact .inr ⟨g, cap2, cur, e, Nat.le_trans hB hb, rest⟩
theorem infoM : (Try.prog.info? 33).map (fun i => (i.zero, i.size, i.bytes)) = some (some (.agg #[.int .i64 0, .string ⟨#[]⟩, .slice none 0 0, .slice none 0 0]), 4, 72) := by kernel_rfl
theorem MRow.app {B H r R cap : Nat} {l : List UInt8} {b : Nat} {w : World} {q : Option Addr} {d : List MK} (h : MRow B r w q d cap) (hR : RdrR H r R l b w) (hB : B ≤ w.heap.size) (hn : d.length ≤ 100000) (y : MK)
    (hk : VRow B r w y.ka y.dk y.kc) (hf : VRow B r w y.fa y.df y.fc) (hno : ∀ g0, (Value.slice q d.length cap).ownBlock = some g0 → NoBlk g0 y.ka y.dk y.kc ∧ NoBlk g0 y.fa y.df y.fc) (K : Nat) (hK : w.heap.size = K) :
    ∃ q' cap' w', (Builtin.append_ #[39, 39] 39 #[.slice q d.length cap, .slice (some ⟨K, 0, none⟩) 1 1]).run Try.prog (w.alloc (.cells #[.int .i64 y.id, .string (S y.chan), .slice y.ka y.dk.length y.kc, .slice y.fa y.df.length y.fc] 33)) = .ok (.slice q' (d.length + 1) cap') w' ∧
      MRow B r w' q' (d ++ [y]) cap' ∧ (w.alloc (.cells #[.int .i64 y.id, .string (S y.chan), .slice y.ka y.dk.length y.kc, .slice y.fa y.df.length y.fc] 33)).grownBy w' (Value.slice q d.length cap).ownBlock := by
  subst hK
  obtain ⟨i0, hi, hz0, hz1, hz2⟩ := info_pt infoM
  have kk := (Below.refl w.heap.size w).alloc (Nat.le_refl _) (.cells #[.int .i64 y.id, .string (S y.chan), .slice y.ka y.dk.length y.kc, .slice y.fa y.df.length y.fc] 33)
  have hnew := heap_alloc_new w (.cells #[.int .i64 y.id, .string (S y.chan), .slice y.ka y.dk.length y.kc, .slice y.fa y.df.length y.fc] 33)
  have hs1 : (w.alloc (.cells #[.int .i64 y.id, .string (S y.chan), .slice y.ka y.dk.length y.kc, .slice y.fa y.df.length y.fc] 33)).heap.size = w.heap.size + 1 := by simp
  have hR1 := hR.below kk
  have hA := h.below hR kk
  have hk1 := hk.below hR kk
  have hf1 := hf.below hR kk
  generalize w.alloc (.cells #[.int .i64 y.id, .string (S y.chan), .slice y.ka y.dk.length y.kc, .slice y.fa y.df.length y.fc] 33) = w1 at *
  have hnews : ∀ j u, y.cells[j]? = some u → w1.cell? ((⟨w.heap.size, 0, none⟩ : Addr).add j) = some u := by
    intro j u hj
    have hadd : (⟨w.heap.size, 0, none⟩ : Addr).add j = ⟨w.heap.size, j, none⟩ := by unfold Addr.add; split <;> simp_all
    rw [hadd, cell_of_row _ w.heap.size j _ _ (0, 0) hnew]
    simpa [MK.cells] using hj
  have h1 : ∀ u ∈ y.cells, u.oneCell' = true := by
    intro u hu
    simp only [MK.cells, List.mem_cons, List.not_mem_nil, or_false] at hu
    rcases hu with rfl | rfl | rfl | rfl <;> rfl
  obtain ⟨v', w', hr, h2, h3, _, h5⟩ := run_append_own_at (P := Try.prog) w1 B 39 39 33 i0 _ 4 72 Try.underlying39 hi hz0 hz1 hz2 rfl (by decide) (.slice q d.length cap) d.length (dM d) hA.own ⟨w.heap.size, 0, none⟩ 1 1 y.cells rfl hnews h1 (by unfold maxLen; omega) (by omega) (by omega)
  have hlen : (d ++ [y]).length = d.length + 1 := by simp
  have hcs : dM (d ++ [y]) = dM d ++ y.cells := by simp [dM]
  have hoff := off_row hR1 hA.own ne_mail.1 ne_mail.2
  have hrow : ∀ (p : Option Addr) e c, VRow B r w1 p e c → (∀ g0, (Value.slice q d.length cap).ownBlock = some g0 → NoBlk g0 p e c) → VRow B r w' p e c ∧ ∀ g0, v'.ownBlock = some g0 → NoBlk g0 p e c := fun p e c hv hn => by
    refine ⟨hv.grown h3 (fun g0 e0 => ⟨hn g0 e0, (hoff g0 e0).1⟩) hR1.lt, fun g0 e0 => ?_⟩
    rcases h5 with h5 | h5
    · rw [h5] at e0; exact hn g0 e0
    · rw [h5] at e0; injection e0 with e0; exact NoBlk.ge hv (by omega)
  rcases h2.2 with ⟨_, h0⟩ | ⟨g, cap2, cur, rfl, rr⟩
  · omega
  · refine ⟨_, _, w', hr, ⟨?_, fun z hz => ?_⟩, h3⟩
    · rw [hlen, hcs]; exact h2
    · rw [hlen]
      rcases List.mem_append.1 hz with hz | hz
      · obtain ⟨n1, n2, n3⟩ := hA.rows z hz
        obtain ⟨k1, k2⟩ := hrow _ _ _ n1 (fun g0 e0 => (n3 g0 e0).1)
        obtain ⟨k3, k4⟩ := hrow _ _ _ n2 (fun g0 e0 => (n3 g0 e0).2)
        exact ⟨k1, k3, fun g0 e0 => ⟨k2 g0 e0, k4 g0 e0⟩⟩
      · obtain rfl : z = y := by simpa using hz
        obtain ⟨k1, k2⟩ := hrow _ _ _ hk1 (fun g0 e0 => (hno g0 e0).1)
        obtain ⟨k3, k4⟩ := hrow _ _ _ hf1 (fun g0 e0 => (hno g0 e0).2)
        exact ⟨k1, k3, fun g0 e0 => ⟨k2 g0 e0, k4 g0 e0⟩⟩
end Go.Proofs.Ytkdhchdhgmaolaa.Cd

namespace Go.Proofs.Ytkdhchdhgmaolaa.Cd
open Go.RowKit
open Pk Va
set_option linter.unusedVariables false
set_option linter.unusedSimpArgs false

def BoxR (H r : Nat) (X : Rs (List MailP)) (w : World) (e : Ending) (w' : World) : Prop :=
  ∃ q d cap, e = .returned (.slice q d.length cap) ∧ d.map MK.mail = X.1 ∧ RdTo H r X.2.1 X.2.2 w w' ∧ MRow w.heap.size r w' q d cap
theorem pMail_short (l : List UInt8) (b : Nat) (h : l.length ≤ 2000000) : (pMail l b).2.1.length ≤ 2000000 := by
  unfold pMail
  simp only
  exact pRow_short _ _ (pRow_short _ _ (Nat.le_trans (rdG_short _ _ _ _) (Nat.le_trans (rdG_short _ _ _ _) h)))

set_option maxRecDepth 100000 in
set_option maxHeartbeats 8000000 in
theorem allM_r (H r R : Nat) (l : List UInt8) (hl : l.length ≤ 2000000) (bad : Nat) (w : World) (h : RdrR H r R l bad w) :
    Calls Try.prog 84 #[.pointer (some ⟨r, 0, none⟩), .int .i64 4096, .func (Fn.func 37) #[] #[]] w fun e w' => BoxR H r (pAll pMail 4096 l bad) w e w' := by
  have c0 := h.c0
  have HSM := Lib.hid (rSmall_k R l hl bad 4096 (by omega) (by omega) w h.2.2.2.2)
  have hn16 := pSmall_le 4096 (by omega) l bad
  have hsh : (pSmall 4096 l bad).2.1.length ≤ 2000000 := Nat.le_trans (rdG_short _ _ _ _) hl
  unfold pAll
  unfold pSmall at *
  generalize rdG 0 (decS l 4096) l bad = y at *
  obtain ⟨n, l1, b1⟩ := y
  simp only at HSM hn16 hsh ⊢
  obtain ⟨X, hX⟩ : ∃ X, X = pLoop pMail n [] l1 b1 := ⟨_, rfl⟩
  rw [← hX]
  obtain ⟨Pst, hPst⟩ : ∃ Pst : Ending → World → Prop, Pst = BoxR H r X w := ⟨_, rfl⟩
  rw [show (fun e w' => BoxR H r X w e w') = Pst from hPst.symm]
  have HPST := Lib.hid (fun e w' (h : BoxR H r X w e w') => show Pst e w' by rw [hPst]; exact h)
  have HX := Lib.hid hX
  have HH := Lib.hid h
  have HSH := Lib.hid hsh
  clear h hX hsh hPst
  go_enter Try.func84, Try.ntmps84
  go_wp2_with fail
  refine HSM.out.mono ?_
  rintro e w1 ⟨rfl, r1, o1⟩
  have T1 := Lib.hid (HH.out.step r1 o1).2
  clear r1 o1 HSM
  go_wp2_with fail
  go_loopw [7, 15] (fun lv iv wr => ∃ (i : Nat) (acc : List MK) (li : List UInt8) (bi : Nat) (q : Option Addr) (cap : Nat), i ≤ n ∧ iv = .int .i64 i ∧ lv = .slice q acc.length cap ∧ acc.length ≤ i ∧ MRow w.heap.size r wr q acc cap ∧ RdTo H r li bi w wr ∧ li.length ≤ 2000000 ∧ X = pLoop pMail (n - i) (acc.map MK.mail) li bi) (fun _ iv _ => n - (intOf iv).toNat)
  case atStart => exact ⟨0, [], l1, b1, none, 0, Nat.zero_le _, rfl, rfl, by simp, MRow.nil _ _ _, T1.out, HSH.out, HX.out⟩
  case round =>
    obtain ⟨i, acc, li, bi, q, cap, hin, rfl, rfl, hai, hown, ht, hli, hx⟩ := hrel
    obtain ⟨Ri, hRi⟩ := ht.rdr
    have c0 := hRi.c0
    by_cases hlt : i < n
    · have hii : (i : Int) < (n : Int) := by omega
      have HC := Lib.hid (mail_r H r Ri li hli bi wr hRi)
      have hsub : n - i = (n - (i + 1)) + 1 := by omega
      rw [hsub] at hx
      unfold pLoop at hx
      have hsh2 : (pMail li bi).2.1.length ≤ 2000000 := pMail_short li bi hli
      generalize pMail li bi = z at *
      obtain ⟨x, l2, b2⟩ := z
      simp only at HC hx hsh2
      have HXX := Lib.hid hx
      have HT := Lib.hid ht
      have HRI := Lib.hid hRi
      have HOWN := Lib.hid hown
      have HAI := Lib.hid hai
      have HSH2 := Lib.hid hsh2
      clear hx ht hown hsub hai hsh2 hRi
      go_wp2_with fail
      refine HC.out.mono ?_
      rintro e w3 ⟨qk, dk, ck, qf, df, cf, rfl, ek, ef, t3, vk, vf⟩
      simp only at t3 ek ef
      obtain ⟨R3, hR3⟩ := t3.rdr
      have hown3 := HOWN.out.keep HRI.out t3
      obtain ⟨y, hy⟩ : ∃ y : MK, y = ⟨x.id, x.chan, qk, dk, ck, qf, df, cf⟩ := ⟨_, rfl⟩
      have hyx : y.mail = x := by rw [hy]; unfold MK.mail; simp only; rw [ek, ef]
      have ka := (Below.refl w3.heap.size w3).alloc (Nat.le_refl _) (.cells #[.int .i64 x.id, .string (S x.chan), .slice qk dk.length ck, .slice qf df.length cf] 33)
      have t4 := RdTo.of_below hR3 ka
      have hb4 := heap_alloc_new w3 (.cells #[.int .i64 x.id, .string (S x.chan), .slice qk dk.length ck, .slice qf df.length cf] 33)
      have hown4 := hown3.keep hR3 t4
      have vk4 := vk.keep hR3 t4
      have vf4 := vf.keep hR3 t4
      have hno : ∀ g0, (Value.slice q acc.length cap).ownBlock = some g0 → NoBlk g0 qk dk ck ∧ NoBlk g0 qf df cf := fun g0 e0 => by
        have := (World.ownsRow.lt HOWN.out.own g0 e0).2
        exact ⟨NoBlk.lt vk this, NoBlk.lt vf this⟩
      obtain ⟨W4, hW4⟩ : ∃ W4, W4 = w3.alloc (.cells #[.int .i64 x.id, .string (S x.chan), .slice qk dk.length ck, .slice qf df.length cf] 33) := ⟨_, rfl⟩
      rw [← hW4] at t4 hb4 hown4 vk4 vf4
      obtain ⟨R4, hR4⟩ := t4.rdr
      have HT4 := Lib.hid ((HT.out.trans t3).trans t4)
      have c04 := hR4.c0
      have HB4 := Lib.hid (bad_any R4 l2 b2 W4 hR4.2.2.2.2)
      have HWS := Lib.hid (show w.heap.size ≤ w3.heap.size from Nat.le_trans HT.out.size t3.size)
      have HC0 := Lib.hid c04
      have y0 := cell_of_row W4 w3.heap.size 0 _ _ _ hb4
      have y1 := cell_of_row W4 w3.heap.size 1 _ _ _ hb4
      have y2 := cell_of_row W4 w3.heap.size 2 _ _ _ hb4
      have y3 := cell_of_row W4 w3.heap.size 3 _ _ _ hb4
      have HR4 := Lib.hid hR4
      have HO4 := Lib.hid hown4
      have HN4 := Lib.hid (vk4.mono (B' := w.heap.size) HT.out.size)
      have HF4 := Lib.hid (vf4.mono (B' := w.heap.size) HT.out.size)
      have HNO := Lib.hid hno
      have HYX := Lib.hid hyx
      have HY := Lib.hid hy
      rw [hW4] at c04
      have HW4 := Lib.hid hW4
      clear hW4 t3 vk vf ek ef hR3 hown3 ka t4 hb4 hown4 vk4 vf4 hno hyx hR4 hy
      go_wp2_with fail
      rw [← HW4.out]
      clear c04
      have c04 := HC0.out
      by_cases hb2 : b2 = 0
      · subst hb2
        have hx3 := HXX.out
        rw [if_neg (by omega)] at hx3
        obtain ⟨q5, cap5, w5, hrun, hown5, hgrow⟩ := HO4.out.app HR4.out (by have := HT4.out.size; omega) (by have := HAI.out; omega) ⟨x.id, x.chan, qk, dk, ck, qf, df, cf⟩ HN4.out HF4.out HNO.out W4.heap.size rfl
        have kk := (Below.refl W4.heap.size W4).alloc (Nat.le_refl _) (.cells #[.int .i64 x.id, .string (S x.chan), .slice qk dk.length ck, .slice qf df.length cf] 33)
        have hoff5 := off_row (HR4.out.below kk) (HO4.out.below HR4.out kk).own ne_mail.1 ne_mail.2
        have HT5 := Lib.hid ((HT4.out.trans (RdTo.of_below HR4.out kk)).grown HH.out.size hgrow (fun g hg => ⟨(World.ownsRow.lt HO4.out.own g hg).1, hoff5 g hg⟩))
        have HRUN := Lib.hid hrun
        have HO5 := Lib.hid hown5
        have HX5 := Lib.hid hx3
        clear hrun hown5 hgrow kk hoff5 hx3
        refine HB4.out.mono ?_
        rintro e w6 ⟨rfl, rfl⟩
        go_wp2_with (at_builtin; refine wpList_app rfl _ _ _ _ rfl rfl rfl _ _ HRUN.out ?_)
        go_wp2_with fail
        go_roundw
        case rel => exact ⟨i + 1, acc ++ [⟨x.id, x.chan, qk, dk, ck, qf, df, cf⟩], l2, 0, q5, cap5, by omega, by go_num, by rw [List.length_append]; rfl, by have := HAI.out; simp; omega, HO5.out, HT5.out, HSH2.out, by rw [HX5.out, List.map_append, List.map_singleton, ← HY.out, HYX.out]⟩
        case measure => simp [intOf]; omega
      · have h3 := (err_ne b2 hb2).1
        have hx3 := HXX.out
        rw [if_pos (by omega)] at hx3
        have HX4 := Lib.hid hx3
        clear hx3 hb2
        refine HB4.out.mono ?_
        rintro e w6 ⟨rfl, rfl⟩
        go_wp2_with fail
        exact HPST.out _ _ (by rw [HX4.out]; exact ⟨none, [], 0, rfl, rfl, HT4.out, MRow.nil _ _ _⟩)
    · have hie : i = n := by omega
      have hii : ¬ (i : Int) < (n : Int) := by omega
      rw [hie, Nat.sub_self] at hx
      unfold pLoop at hx
      have HT := Lib.hid ht
      have HOWN := Lib.hid hown
      have HXX := Lib.hid hx
      clear ht hx hown hRi
      go_wp2_with fail
      exact HPST.out _ _ (by rw [HXX.out]; exact ⟨q, acc, cap, rfl, rfl, HT.out, HOWN.out⟩)

end Go.Proofs.Ytkdhchdhgmaolaa.Cd

namespace Go.Proofs.Ytkdhchdhgmaolaa.Cd
open Go.RowKit
open Pk Va
set_option linter.unusedVariables false
set_option linter.unusedSimpArgs false

def pItem (l : List UInt8) (b : Nat) : Rs ItemP :=
  let i := pNum l b
  let s := pNum i.2.1 i.2.2
  let t := pText 24 s.2.1 s.2.2
  let z := pText 24 t.2.1 t.2.2
  let a := pAll pVal 16 z.2.1 z.2.2
  let c := pAll pCnt 16 a.2.1 a.2.2
  let x := pAll pMail 4096 c.2.1 c.2.2
  (⟨i.1, t.1, z.1, s.1, a.1, c.1, x.1⟩, x.2)
def pDead (l : List UInt8) (b : Nat) : Rs DeadP :=
  let n := pNum l b
  let m := pMail n.2.1 n.2.2
  let s := pSmall 5 m.2.1 m.2.2
  (⟨n.1, m.1, (s.1 : Int)⟩, s.2)
def pEvent (l : List UInt8) (b : Nat) : Rs EventP :=
  let n := pNum l b
  let t := pNum n.2.1 n.2.2
  let i := pNum t.2.1 t.2.2
  let a := pText 24 i.2.1 i.2.2
  let y := pText 24 a.2.1 a.2.2
  let z := pText 24 y.2.1 y.2.2
  let v := pAll pVal 16 z.2.1 z.2.2
  (⟨n.1, t.1, a.1, i.1, y.1, z.1, v.1⟩, v.2)

/-- A row of counters that was read, in memory. -/
structure CRow (B r : Nat) (w : World) (q : Option Addr) (l : List Int) : Prop where
  at_ : NumsAt w q l
  own : ∀ g off, q = some ⟨g, off, none⟩ → l ≠ [] → B ≤ g ∧ OffR r g w
theorem CRow.nil (B r : Nat) (w : World) : CRow B r w none [] := ⟨fun i hi => absurd hi (by simp), fun _ _ e => by cases e⟩
theorem CRow.keep {B H r R : Nat} {l l' : List UInt8} {b b' : Nat} {w w' : World} {q : Option Addr} {d : List Int} (h : CRow B r w q d) (hR : RdrR H r R l b w) (t : RdTo H r l' b' w w') : CRow B r w' q d :=
  ⟨NumsAt.of_block h.at_ t.size (fun g off e hn => (t.keeps g (h.own g off e hn).2).1), fun g off e hn => ⟨(h.own g off e hn).1, (t.keeps g (h.own g off e hn).2).2⟩⟩
theorem CRow.below {B H r R : Nat} {l : List UInt8} {b : Nat} {w w' : World} {q : Option Addr} {d : List Int} (h : CRow B r w q d) (hR : RdrR H r R l b w) (k : Below w.heap.size w w') : CRow B r w' q d := h.keep hR (RdTo.of_below hR k)
theorem CRow.mono {B B' r : Nat} {w : World} {q : Option Addr} {d : List Int} (h : CRow B r w q d) (hB : B' ≤ B) : CRow B' r w q d :=
  ⟨h.at_, fun g off e hn => ⟨Nat.le_trans hB (h.own g off e hn).1, (h.own g off e hn).2⟩⟩
theorem CRow.set {B r g j : Nat} {w : World} {q : Option Addr} {d : List Int} (h : CRow B r w q d) (hg : g < B) (hr : g ≠ r) (v : Value) : CRow B r (w.setCell ⟨g, j, none⟩ v) q d :=
  ⟨NumsAt.set h.at_ g (fun b off e hn => by have := (h.own b off e hn).1; omega) j v, fun b off e hn => ⟨(h.own b off e hn).1, (h.own b off e hn).2.set hr v⟩⟩
theorem pCnts_short (l : List UInt8) (b : Nat) (h : l.length ≤ 2000000) : (pAll pCnt 16 l b).2.1.length ≤ 2000000 := pAll_short pCnt 2000000 (fun l b h => Nat.le_trans (rdG_short _ _ _ _) h) 16 l b h
theorem allC_k (H r R : Nat) (l : List UInt8) (hl : l.length ≤ 2000000) (bad : Nat) (w : World) (h : RdrR H r R l bad w) :
    Calls Try.prog 82 #[.pointer (some ⟨r, 0, none⟩), .int .i64 16, .func (Fn.func 83) #[] #[]] w fun e w' =>
      ∃ q cap, e = .returned (.slice q (pAll pCnt 16 l bad).1.length cap) ∧ RdTo H r (pAll pCnt 16 l bad).2.1 (pAll pCnt 16 l bad).2.2 w w' ∧ CRow w.heap.size r w' q (pAll pCnt 16 l bad).1 :=
  (allC_r H r R l hl bad w h).mono fun _ _ ⟨q, c, h1, h2, h3, h4⟩ => ⟨q, c, h1, h2, h3, h4⟩
theorem MRow.set {B r cap g j : Nat} {w : World} {q : Option Addr} {d : List MK} (h : MRow B r w q d cap) (hg : g < B) (hr : g ≠ r) (v : Value) : MRow B r (w.setCell ⟨g, j, none⟩ v) q d cap := by
  refine ⟨⟨h.own.1, ?_⟩, fun y hy => ⟨(h.rows y hy).1.set hg hr v, (h.rows y hy).2.1.set hg hr v, (h.rows y hy).2.2⟩⟩
  rcases h.own.2 with h0 | ⟨g2, cap2, cur, e, hb, hc, rest⟩
  · exact .inl h0
  · exact .inr ⟨g2, cap2, cur, e, hb, (heap_setCell_other w ⟨g, j, none⟩ g2 v (show g2 ≠ g by omega)).trans hc, rest⟩
end Go.Proofs.Ytkdhchdhgmaolaa.Cd
