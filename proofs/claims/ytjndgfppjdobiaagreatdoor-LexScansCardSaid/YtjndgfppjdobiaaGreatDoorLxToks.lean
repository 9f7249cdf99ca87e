/-
  A row of tokens, as it is read; a text that is too long; the chapter's examples.
-/
import Derived.Test.YtjndgfppjdobiaaGreatDoorLxScanW
namespace Go.Proofs.YtjndgfppjdobiaaGreatDoor.Lx
open Go.RowKit
open Va

/-- A row of tokens in memory. -/
structure TokAt (w : World) (g : Nat) (ts : List TA) : Prop where
  lt : g < w.heap.size
  cells : ∀ i t, ts[i]? = some t → w.cell? ⟨g, i * 4, none⟩ = some (.int .i64 t.kind) ∧ w.cell? ⟨g, i * 4 + 1, none⟩ = some (.string (S t.text)) ∧ w.cell? ⟨g, i * 4 + 2, none⟩ = some (.int .i64 t.num) ∧ w.cell? ⟨g, i * 4 + 3, none⟩ = some (.int .i64 (t.at_ : Int))
theorem TokAt.below {w w' : World} {g : Nat} {ts : List TA} (h : TokAt w g ts) (b : Below w.heap.size w w') : TokAt w' g ts :=
  ⟨Nat.lt_of_lt_of_le h.lt b.size, fun i t hi => by
    obtain ⟨h0, h1, h2, h3⟩ := h.cells i t hi
    exact ⟨(b.cell (p := ⟨g, i * 4, none⟩) h.lt).trans h0, (b.cell (p := ⟨g, i * 4 + 1, none⟩) h.lt).trans h1, (b.cell (p := ⟨g, i * 4 + 2, none⟩) h.lt).trans h2, (b.cell (p := ⟨g, i * 4 + 3, none⟩) h.lt).trans h3⟩⟩
theorem toksC_get : ∀ (ts : List TA) (i : Nat) (t : TA), ts[i]? = some t →
    (toksC ts)[i * 4]? = some (.int .i64 t.kind) ∧ (toksC ts)[i * 4 + 1]? = some (.string (S t.text)) ∧ (toksC ts)[i * 4 + 2]? = some (.int .i64 t.num) ∧ (toksC ts)[i * 4 + 3]? = some (.int .i64 (t.at_ : Int))
  | [], i, t, h => by simp at h
  | a :: ts, 0, t, h => by
    obtain rfl : a = t := by simpa using h
    exact ⟨rfl, rfl, rfl, rfl⟩
  | a :: ts, i + 1, t, h => by
    have ih := toksC_get ts i t (by simpa using h)
    have e : ∀ k, (toksC (a :: ts))[(i + 1) * 4 + k]? = (toksC ts)[i * 4 + k]? := fun k => by
      show ([Value.int .i64 a.kind, .string (S a.text), .int .i64 a.num, .int .i64 (a.at_ : Int)] ++ toksC ts)[(i + 1) * 4 + k]? = _
      rw [List.getElem?_append_right (by simp; omega)]
      congr 1
      simp; omega
    exact ⟨by rw [show (i + 1) * 4 = (i + 1) * 4 + 0 from rfl, e 0]; exact ih.1, by rw [e 1]; exact ih.2.1, by rw [e 2]; exact ih.2.2.1, by rw [e 3]; exact ih.2.2.2⟩
theorem Toks.at {w : World} {B : Nat} {v : Value} {ts : List TA} (h : Toks w B v ts) (hne : ts ≠ []) : ∃ g cap, v = .slice (some ⟨g, 0, none⟩) ts.length cap ∧ B ≤ g ∧ TokAt w g ts := by
  have hpos := List.length_pos_iff.2 hne
  rcases h.2 with ⟨_, h0⟩ | ⟨g, cap, cur, rfl, hB, hg, _⟩
  · omega
  · refine ⟨g, cap, rfl, hB, lt_of_heapV hg, fun i t hi => ?_⟩
    have hil := (List.getElem?_eq_some_iff.1 hi).1
    obtain ⟨h0, h1, h2, h3⟩ := toksC_get ts i t hi
    have c : ∀ k u, k < 4 → (toksC ts)[i * 4 + k]? = some u → w.cell? ⟨g, i * 4 + k, none⟩ = some u := fun k u hk hu => by
      have hl := toksC_length ts
      have := World.ownsRow.cells h (g := g) rfl (i * 4 + k) u hu
      have hadd : (⟨g, 0, none⟩ : Addr).add (i * 4 + k) = ⟨g, i * 4 + k, none⟩ := by unfold Addr.add; split <;> simp_all
      rw [hadd] at this
      exact this
    exact ⟨c 0 _ (by omega) h0, c 1 _ (by omega) h1, c 2 _ (by omega) h2, c 3 _ (by omega) h3⟩

set_option linter.unusedSimpArgs false
set_option maxRecDepth 100000 in
set_option maxHeartbeats 1600000 in
theorem scan_long (s : ByteArray) (hs : 8000 < s.size) (w : World) :
    Calls Tryz.prog 5 #[.string s] w fun e w' => e = .returned (.tuple #[.slice none 0 0, .int .i64 0, .int .i64 5]) ∧ Below w.heap.size w w' := by
  have hsi : (8000 : Int) < (s.size : Int) := by omega
  go_enter Tryz.func5, Tryz.ntmps5
  go_wp2_with fail
  go_ret3
  exact ⟨rfl, Below.refl _ _⟩
/-- A scan that finds tokens. -/
theorem scan_ok (s : ByteArray) (hs : s.size ≤ 8000) (w : World) (hL : Laid w) (ts : List TA) (h : scanM s.data.toList 0 = (ts, none)) :
    Calls Tryz.prog 5 #[.string s] w fun e w' => (∃ g cap, e = .returned (.tuple #[.slice (some ⟨g, 0, none⟩) ts.length cap, .int .i64 0, .int .i64 0]) ∧ w.heap.size ≤ g ∧ TokAt w' g ts) ∧ Below w.heap.size w w' := by
  refine (scan_any s hs w hL).mono ?_
  rintro e w' ⟨hr, hb⟩
  rw [h] at hr
  obtain ⟨v, rfl, ht⟩ := hr
  have hne : ts ≠ [] := by
    have := scan_ne s.data.toList 0 (by rw [h])
    rw [h] at this
    exact this
  obtain ⟨g, cap, rfl, hB, hta⟩ := ht.at hne
  exact ⟨⟨g, cap, rfl, hB, hta⟩, hb⟩
/-- A scan that doesn't. -/
theorem scan_err (s : ByteArray) (hs : s.size ≤ 8000) (w : World) (hL : Laid w) (ts : List TA) (p : Nat) (h : scanM s.data.toList 0 = (ts, some p)) :
    Calls Tryz.prog 5 #[.string s] w fun e w' => e = .returned (.tuple #[.slice none 0 0, .int .i64 (p : Int), .int .i64 24]) ∧ Below w.heap.size w w' := by
  refine (scan_any s hs w hL).mono ?_
  rintro e w' ⟨hr, hb⟩
  rw [h] at hr
  exact ⟨hr, hb⟩

end Go.Proofs.YtjndgfppjdobiaaGreatDoor.Lx
