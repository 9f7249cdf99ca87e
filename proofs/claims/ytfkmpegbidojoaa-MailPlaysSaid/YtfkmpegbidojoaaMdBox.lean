/-
  A message's variable; rows of twins, and what they outlast.
-/
import Derived.Test.YtfkmpegbidojoaaMdPure
import Derived.Test.YtfkmpegbidojoaaVlTwinC
namespace Go.Proofs.Ytfkmpegbidojoaa.Md
open Go.RowKit
open Va
set_option linter.unusedVariables false

/-- A message as an argument. -/
def mV (m : MailP) (ka : Option Addr) (kc : Nat) (fa : Option Addr) (fc : Nat) : Value := .agg #[.int .i64 m.id, .string (S m.chan), .slice ka m.key.length kc, .slice fa m.fields.length fc]
def BM (w : World) (H : Nat) (a b c d : Value) : Prop := w.heap[H]? = some (.cells #[a, b, c, d] 30 (0, 0))
def bput (w : World) (H : Nat) (x y z u : Value) : World := (((w.setCell ⟨H, 0, none⟩ x).setCell ⟨H, 1, none⟩ y).setCell ⟨H, 2, none⟩ z).setCell ⟨H, 3, none⟩ u
section
variable {w : World} {H : Nat} {a b c d : Value}
theorem BM.c0 (h : BM w H a b c d) : w.cell? ⟨H, 0, none⟩ = some a := cell_of_row w H 0 _ _ (0, 0) h
theorem BM.c1 (h : BM w H a b c d) : w.cell? ⟨H, 1, none⟩ = some b := cell_of_row w H 1 _ _ (0, 0) h
theorem BM.c2 (h : BM w H a b c d) : w.cell? ⟨H, 2, none⟩ = some c := cell_of_row w H 2 _ _ (0, 0) h
theorem BM.c3 (h : BM w H a b c d) : w.cell? ⟨H, 3, none⟩ = some d := cell_of_row w H 3 _ _ (0, 0) h
theorem BM.fz (h : BM w H a b c d) (j : Nat) : w.frozen? ⟨H, j, none⟩ = false := frozen_of_row w H j _ _ h
theorem BM.lt (h : BM w H a b c d) : H < w.heap.size := lt_of_heapV h
theorem BM.blk (h : BM w H a b c d) : Blk w H 30 := ⟨_, h⟩
theorem BM.set1 (h : BM w H a b c d) (x : Value) : BM (w.setCell ⟨H, 1, none⟩ x) H a x c d := heap_setCell_same w H 1 _ _ _ h
theorem BM.set2 (h : BM w H a b c d) (x : Value) : BM (w.setCell ⟨H, 2, none⟩ x) H a b x d := heap_setCell_same w H 2 _ _ _ h
theorem BM.set3 (h : BM w H a b c d) (x : Value) : BM (w.setCell ⟨H, 3, none⟩ x) H a b c x := heap_setCell_same w H 3 _ _ _ h
theorem BM.put (h : BM w H a b c d) (x y z u : Value) : BM (bput w H x y z u) H x y z u :=
  heap_setCell_same _ H 3 _ _ _ (heap_setCell_same _ H 2 _ _ _ (heap_setCell_same _ H 1 _ _ _ (heap_setCell_same w H 0 _ _ _ h)))
theorem BM.below {w' : World} (h : BM w H a b c d) (k : Below w.heap.size w w') : BM w' H a b c d := (k.block H h.lt).trans h
theorem BM.other {g o : Nat} {v : Value} (h : BM w H a b c d) (hne : H ≠ g) : BM (w.setCell ⟨g, o, none⟩ v) H a b c d := (Below.heap_setCell _ _ _ _ hne).trans h
end
theorem bput_below {B : Nat} {w w' : World} (h : Below B w w') (g : Nat) (hg : B ≤ g) (x y z u : Value) : Below B w (bput w' g x y z u) :=
  (((h.setCell (p := ⟨g, 0, none⟩) hg x).setCell (p := ⟨g, 1, none⟩) hg y).setCell (p := ⟨g, 2, none⟩) hg z).setCell (p := ⟨g, 3, none⟩) hg u
theorem bput_other {w : World} {g b : Nat} (h : b ≠ g) (x y z u : Value) : (bput w g x y z u).heap[b]? = w.heap[b]? :=
  (Below.heap_setCell _ _ _ _ h).trans ((Below.heap_setCell _ _ _ _ h).trans ((Below.heap_setCell _ _ _ _ h).trans (Below.heap_setCell _ _ _ _ h)))
theorem bput_size {w : World} {g : Nat} (x y z u : Value) : (bput w g x y z u).heap.size = w.heap.size := by simp [bput, World.setCell]
theorem res_bm1 {fn : Func} {p : Tmp} (h : fn.results = #[.cell p 30]) (tmps : Array Value) (w : World) (g : Nat) (a b c d : Value)
    (hp : tmps.getD p undef = .pointer (some ⟨g, 0, none⟩)) (hg : BM w g a b c d) :
    (results fn tmps).run Try.prog w = .ok (.agg #[a, b, c, d]) w := by
  have hp' : tmps[p]?.getD undef = .pointer (some ⟨g, 0, none⟩) := by simpa using hp
  have hr := run_loadVar_row (P := Try.prog) w g 30 30 #[a, b, c, d] (0, 0) _ hg Try.underlying30 rfl (by kernel_rfl)
  simp [results, h, hp', asAddr, hr]
theorem res_bm2 {fn : Func} {p u : Tmp} (h : fn.results = #[.cell p 30, .tmp u]) (tmps : Array Value) (w : World) (g : Nat) (a b c d x : Value)
    (hp : tmps.getD p undef = .pointer (some ⟨g, 0, none⟩)) (hg : BM w g a b c d) (hx : tmps.getD u undef = x) :
    (results fn tmps).run Try.prog w = .ok (.tuple #[.agg #[a, b, c, d], x]) w := by
  have hp' : tmps[p]?.getD undef = .pointer (some ⟨g, 0, none⟩) := by simpa using hp
  have hx' : tmps[u]?.getD undef = x := by simpa using hx
  have hr := run_loadVar_row (P := Try.prog) w g 30 30 #[a, b, c, d] (0, 0) _ hg Try.underlying30 rfl (by kernel_rfl)
  simp [results, h, hp', hx', asAddr, hr]

end Go.Proofs.Ytfkmpegbidojoaa.Md
namespace Go.Proofs.Ytfkmpegbidojoaa.Va
open Go.RowKit
open Md (bput bput_other)

/-- Rows of twins outlast whatever leaves the blocks of values and of numbers as they are. -/
theorem TwR.agree {lo : Nat} {w w' : World} {a : Option Addr} {vs : List V} (h : TwR lo w a vs) (ag : ∀ b t, (t = 64 ∨ t = 2) → lo ≤ b → Blk w b t → w'.heap[b]? = w.heap[b]?) : TwR lo w' a vs := by
  rcases h with h | ⟨G, rfl, h⟩
  · exact .inl h
  · have hc : ∀ b t j, (t = 64 ∨ t = 2) → lo ≤ b → Blk w b t → w'.cell? ⟨b, j, none⟩ = w.cell? ⟨b, j, none⟩ := fun b t j ht hlo hb => by unfold World.cell?; simp only [ag b t ht hlo hb]
    have hk : ∀ b t, (t = 64 ∨ t = 2) → lo ≤ b → Blk w b t → Blk w' b t := fun b t ht hlo hb => by obtain ⟨cs, hs⟩ := hb; exact ⟨cs, (ag b t ht hlo ⟨cs, hs⟩).trans hs⟩
    refine .inr ⟨G, rfl, h.ge, hk _ _ (.inl rfl) h.ge h.blk, fun i v hv => ?_⟩
    obtain ⟨a, c, h0, h1, h2, h3, h4⟩ := h.cells i v hv
    have hg := fun j => hc G _ j (.inl rfl) h.ge h.blk
    refine ⟨a, c, (hg _).trans h0, (hg _).trans h1, (hg _).trans h2, (hg _).trans h3, fun hi' j hj => ?_⟩
    obtain ⟨b, e, hs, hcc, hb⟩ := h4 hi' j hj
    exact ⟨b, e, hk _ _ (.inr rfl) hb hs, (hc _ _ _ (.inr rfl) hb hs).trans hcc, hb⟩
theorem TwR.below {lo : Nat} {w w' : World} {a : Option Addr} {vs : List V} (h : TwR lo w a vs) (k : Below w.heap.size w w') : TwR lo w' a vs := TwR.agree h fun b t _ _ hb => k.block b hb.lt
/-- Likewise whatever changes one block alone, of another sort. -/
theorem TwR.but {lo g : Nat} {w w' : World} {a : Option Addr} {vs : List V} (h : TwR lo w a vs) (hg : ∀ t, (t = 64 ∨ t = 2) → ¬ Blk w g t) (k : ∀ b, b < w.heap.size → b ≠ g → w'.heap[b]? = w.heap[b]?) : TwR lo w' a vs :=
  TwR.agree h fun b t ht _ hb => k b hb.lt (fun e => hg t ht (e ▸ hb))
theorem not_blk {w : World} {g : Nat} {t : TypeId} (h : Blk w g t) (h1 : t ≠ 64) (h2 : t ≠ 2) : ∀ u, (u = 64 ∨ u = 2) → ¬ Blk w g u := fun u hu hb => by
  obtain ⟨cs, e⟩ := h
  obtain ⟨ds, e2⟩ := hb
  rw [e] at e2
  injection e2 with e3
  injection e3 with _ e4 _
  subst e4
  rcases hu with hu | hu
  · exact h1 hu
  · exact h2 hu
theorem TwR.mono {lo hi : Nat} {w : World} {a : Option Addr} {vs : List V} (h : TwR hi w a vs) (k : lo ≤ hi) : TwR lo w a vs := by
  rcases h with h | ⟨G, e, h⟩
  · exact .inl h
  · refine .inr ⟨G, e, Nat.le_trans k h.ge, h.blk, fun i v hv => ?_⟩
    obtain ⟨a, c, h0, h1, h2, h3, h4⟩ := h.cells i v hv
    exact ⟨a, c, h0, h1, h2, h3, fun hi' => (h4 hi').mono k⟩
theorem TwR.set {lo g o : Nat} {w : World} {a : Option Addr} {vs : List V} {v : Value} (h : TwR lo w a vs) (hb : Blk w g 30) : TwR lo (w.setCell ⟨g, o, none⟩ v) a vs :=
  TwR.but h (not_blk hb (by decide) (by decide)) fun b _ hne => Below.heap_setCell _ _ _ _ hne
theorem TwR.bput {lo g : Nat} {w : World} {a : Option Addr} {vs : List V} {x y z u : Value} (h : TwR lo w a vs) (hb : Blk w g 30) : TwR lo (bput w g x y z u) a vs :=
  TwR.but h (not_blk hb (by decide) (by decide)) fun b _ hne => bput_other hne _ _ _ _

end Go.Proofs.Ytfkmpegbidojoaa.Va
