/-
  Several texts in one: ExRTok, ExRead.
-/
import Derived.Test.YtabbdkdpmpjchaaGreatDoorZTzB
import Derived.Test.YtabbdkdpmpjchaaGreatDoorZLxRB
import Derived.Test.YtabbdkdpmpjchaaGreatDoorZTzL
import Derived.Test.YtabbdkdpmpjchaaGreatDoorZTzRz
namespace Go.Proofs.YtabbdkdpmpjchaaGreatDoor.Ex
open Go.RowKit
open Lx
theorem rtoksC_get : ∀ (ts : List TA) (i : Nat) (t : TA), ts[i]? = some t →
    (rtoksC ts)[i * 4]? = some (.int .i64 t.kind) ∧ (rtoksC ts)[i * 4 + 1]? = some (.string (S t.text)) ∧ (rtoksC ts)[i * 4 + 2]? = some (.int .i64 t.num) ∧ (rtoksC ts)[i * 4 + 3]? = some (.int .i64 (t.at_ : Int))
  | [], i, t, h => by simp at h
  | a :: ts, 0, t, h => by
    obtain rfl : a = t := by simpa using h
    exact ⟨rfl, rfl, rfl, rfl⟩
  | a :: ts, i + 1, t, h => by
    have ih := rtoksC_get ts i t (by simpa using h)
    have e : ∀ k, (rtoksC (a :: ts))[(i + 1) * 4 + k]? = (rtoksC ts)[i * 4 + k]? := fun k => by
      show ([Value.int .i64 a.kind, .string (S a.text), .int .i64 a.num, .int .i64 (a.at_ : Int)] ++ rtoksC ts)[(i + 1) * 4 + k]? = _
      rw [List.getElem?_append_right (by simp; omega)]
      congr 1
      simp; omega
    exact ⟨by rw [show (i + 1) * 4 = (i + 1) * 4 + 0 from rfl, e 0]; exact ih.1, by rw [e 1]; exact ih.2.1, by rw [e 2]; exact ih.2.2.1, by rw [e 3]; exact ih.2.2.2⟩
theorem RToks.ts {w : World} {B : Nat} {v : Value} {ts : List TA} (h : RToks w B v ts) (hne : ts ≠ []) : ∃ g cap, v = .slice (some ⟨g, 0, none⟩) ts.length cap ∧ B ≤ g ∧ TsAt w g ts := by
  have hpos := List.length_pos_iff.2 hne
  rcases h.2 with ⟨_, h0⟩ | ⟨g, cap, cur, rfl, hB, hg, _⟩
  · omega
  · refine ⟨g, cap, rfl, hB, (Array.getElem?_eq_some_iff.1 hg).1, fun i t hi => ?_⟩
    obtain ⟨h0, h1, h2, h3⟩ := rtoksC_get ts i t hi
    have c : ∀ k u, (rtoksC ts)[i * 4 + k]? = some u → w.cell? ⟨g, i * 4 + k, none⟩ = some u := fun k u hu => by
      have := World.ownsRow.cells h (g := g) rfl (i * 4 + k) u hu
      have hadd : (⟨g, 0, none⟩ : Addr).add (i * 4 + k) = ⟨g, i * 4 + k, none⟩ := by unfold Addr.add; split <;> simp_all
      rw [hadd] at this
      exact this
    exact ⟨c 0 _ h0, c 1 _ h1, c 2 _ h2, c 3 _ h3⟩
theorem tokM_ne {l : List UInt8} {t : Tok} (h : tokM l = some t) : t.kind ≠ 0 := by
  unfold tokM at h
  split at h
  · cases h
  · simp only at h
    repeat' split at h
    all_goals first
      | (obtain rfl := Option.some.inj h; simp)
      | cases h
theorem scanF_ends : ∀ (f : Nat) (l : List UInt8) (a : Nat) (ts : List TA), scanF f l a = (ts, none) → ∃ m e, ts = m ++ [e] ∧ e.kind = 0 ∧ ∀ t ∈ m, t.kind ≠ 0
  | 0, l, a, ts, h => by
    unfold scanF at h
    cases h
  | f + 1, l, a, ts, h => by
    unfold scanF at h
    simp only at h
    split at h
    · cases h
      exact ⟨[], _, rfl, rfl, by simp⟩
    · rename_i c r hm
      split at h
      · cases h
      · rename_i t ht
        obtain ⟨us, o, hu⟩ : ∃ us o, scanF f ((c :: r).drop t.len) (a + blk false l + t.len) = (us, o) := ⟨_, _, rfl⟩
        rw [hu] at h
        simp only [Prod.mk.injEq] at h
        obtain ⟨rfl, rfl⟩ := h
        obtain ⟨m, e, rfl, he, hk⟩ := scanF_ends f _ _ us hu
        exact ⟨_ :: m, e, rfl, he, fun x hx => by
          rcases List.mem_cons.1 hx with rfl | hx
          · exact tokM_ne ht
          · exact hk x hx⟩
theorem ends_of {m : List TA} {e : TA} (he : e.kind = 0) (hk : ∀ t ∈ m, t.kind ≠ 0) : Ends (m ++ [e]) := by
  refine ⟨by simp, fun i hi => ?_, ?_⟩
  · have h1 : i < m.length := by simp at hi; omega
    have e1 : tk (m ++ [e]) i = m[i] := by
      simp [tk, List.getD_eq_getElem?_getD, List.getElem?_append_left h1, h1]
    rw [e1]
    exact hk _ (List.getElem_mem _)
  · have e1 : tk (m ++ [e]) ((m ++ [e]).length - 1) = e := by simp [tk, List.getD_eq_getElem?_getD]
    rw [e1]; exact he
theorem scan_ends {l : List UInt8} {ts : List TA} (h : scanM l 0 = (ts, none)) : Ends ts := by
  obtain ⟨m, e, rfl, he, hk⟩ := scanF_ends _ l 0 ts (show scanF (l.length + 1) l 0 = (ts, none) from h)
  exact ends_of he hk
end Go.Proofs.YtabbdkdpmpjchaaGreatDoor.Ex

namespace Go.Proofs.YtabbdkdpmpjchaaGreatDoor.Ex
open Go.RowKit
open Lx
set_option linter.unusedVariables false
set_option maxRecDepth 100000 in
set_option maxHeartbeats 16000000 in
theorem refRead_ok (s : ByteArray) (hs : s.size ≤ 8000) (ts : List TA) (hsc : scanM s.data.toList 0 = (ts, none)) (x : T) (s2 : St) (hp : parseM ts 0 = .ok x s2) (hend : s2.at_ + 1 = ts.length) (w : World) :
    Calls Tryz.prog 29 #[.string s] w fun e w' => (∃ p c, e = .returned (.tuple #[exprC x p c, .int .i64 0, .int .i64 0]) ∧ FAt w' (w.heap.size ≤ ·) x.args p) ∧ Below w.heap.size w w' := by
  have hls := list_size s
  have hlen := (scan_at _ s.data.toList 0 (Nat.le_refl _)).2
  rw [hsc] at hlen
  simp only at hlen
  have hn : ts.length ≤ 8001 := by omega
  have hE := scan_ends hsc
  have hne : ts ≠ [] := by intro e; have := hE.pos; rw [e] at this; simp at this
  have HSC := Lib.hid (fun (w1 : World) => refScan_any s hs w1)
  rw [hsc] at HSC
  have HPA := Lib.hid (fun g cap w1 (k : TsAt w1 g ts) => refParse_any g cap ts hE hn w1 k)
  rw [hp] at HPA
  have hni : (ts.length : Int) ≤ 8001 := by omega
  have hnx : ((s2.at_ : Int) == (ts.length : Int) - 1) = true := by rw [beq_iff_eq]; omega
  have hnx2 : ((s2.at_ : Int) != (ts.length : Int) - 1) = false := by simp only [bne_eq_false_iff_eq]; omega
  have hpi : (1 : Int) ≤ (ts.length : Int) := by have := hE.pos; omega
  have HNE := Lib.hid hne
  have HB0 := Lib.hid ((Below.refl w.heap.size w).alloc (Nat.le_refl _) (.cells #[.int .i64 0, .int .i64 0, .string ⟨#[]⟩, .slice none 0 0] 24))
  have HX0 := Lib.hid (Bx.new w (.int .i64 0) (.int .i64 0) (.string ⟨#[]⟩) (.slice none 0 0))
  clear hls hlen hsc hE hne hp hend
  go_enter Tryz.func29, Tryz.ntmps29
  go_wp2_with fail
  refine (HSC.out _).mono ?_
  rintro e w1 ⟨hr, b1⟩
  obtain ⟨v, rfl, htk⟩ := hr
  obtain ⟨g, cap, rfl, _, hts⟩ := RToks.ts (B := _) (v := v) htk HNE.out
  have HTS := Lib.hid hts
  have HB1 := Lib.hid (HB0.out.trans (b1.mono (by simp)))
  have HX1 := Lib.hid (HX0.out.keep (Kept.of_below (ok := fun _ => True) b1) trivial)
  clear hts b1 htk
  go_wp2_with fail
  refine (HPA.out g cap _ HTS.out).mono ?_
  rintro e w5 ⟨hr, b5⟩
  obtain ⟨q, c, rfl, hfa⟩ := hr
  unfold exprC
  have hh := HX1.out.keep (Kept.of_below (ok := fun _ => True) b5) trivial
  have HZ1 := Lib.hid HX1.out.lt
  have f5 := hh.fz
  have p0 := hh.c0
  have p1 := hh.c1
  have p2 := hh.c2
  have p3 := hh.c3
  have hh5 := hh.lt
  have zh : ∀ o j, (w5.alloc o).cell? ⟨w.heap.size, j, none⟩ = w5.cell? ⟨w.heap.size, j, none⟩ := fun o j => Kept.cell (Kept.alloc (ok := fun _ => True) w5 o) trivial hh5
  have zf : ∀ o j, (w5.alloc o).frozen? ⟨w.heap.size, j, none⟩ = false := fun o j => (hh.keep (Kept.alloc (ok := fun _ => True) w5 o) trivial).fz j
  have HXF := Lib.hid (Bx.keep (ok := fun _ => True) (hh.put (.int .i64 x.op) (.int .i64 x.num) (.string (S x.text)) (.slice q x.args.len c)) (Kept.alloc _ (.cells #[.int .i64 x.op, .int .i64 x.num, .string (S x.text), .slice q x.args.len c] 24)) trivial)
  have hB5 := HB1.out.trans (b5.mono HB1.out.size)
  have HBF := Lib.hid ((Below.put hB5 w.heap.size (Nat.le_refl _) (.int .i64 x.op) (.int .i64 x.num) (.string (S x.text)) (.slice q x.args.len c)).alloc (by rw [put4_size]; omega) (.cells #[.int .i64 x.op, .int .i64 x.num, .string (S x.text), .slice q x.args.len c] 24))
  have HFF := Lib.hid (FAt.mono (ok' := (w.heap.size ≤ ·)) (fun y _ hg => by have h1 := HZ1.out; have h2 : w1.heap.size ≤ y := hg; show w.heap.size ≤ y; omega) _ _ ((hfa.keep (Kept.put w5 w.heap.size (.int .i64 x.op) (.int .i64 x.num) (.string (S x.text)) (.slice q x.args.len c) (by have := HZ1.out; omega))).keep (Kept.alloc _ (.cells #[.int .i64 x.op, .int .i64 x.num, .string (S x.text), .slice q x.args.len c] 24))))
  clear hh hfa b5 hB5
  go_wp2_with fail
  refine bodyPost_ret (res_expr3 rfl _ _ w.heap.size _ _ _ _ (.int .i64 0) (.int .i64 0) rfl HXF.out rfl rfl) rfl ?_
  exact ⟨⟨q, c, rfl, HFF.out⟩, HBF.out⟩
end Go.Proofs.YtabbdkdpmpjchaaGreatDoor.Ex
