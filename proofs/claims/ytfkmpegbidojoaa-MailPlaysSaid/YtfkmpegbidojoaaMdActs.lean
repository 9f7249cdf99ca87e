/-
  What comes in, opened: a row of calls.
-/
import Derived.Test.YtfkmpegbidojoaaMdOpen
namespace Go.Proofs.Ytfkmpegbidojoaa.Md
open Go.RowKit
open Va
set_option linter.unusedVariables false
set_option linter.unusedSimpArgs false

structure ActP where
  what : Int
  m : MailP
instance : Inhabited ActP := ⟨⟨0, ⟨0, [], [], []⟩⟩⟩
structure ABig (x : ActP) : Prop where
  what : Num64 x.what
  m : MBig x.m
def ActsAt (w : World) (a : Option Addr) (l : List ActP) : Prop := ∀ i, (h : i < l.length) → ∃ b off ka kc fa fc, a = some ⟨b, off, none⟩ ∧ (w.cell? ⟨b, off + i * 5, none⟩ = some (.int .i64 l[i].what) ∧ w.cell? ⟨b, off + i * 5 + 1, none⟩ = some (.int .i64 l[i].m.id) ∧ w.cell? ⟨b, off + i * 5 + 2, none⟩ = some (.string (S l[i].m.chan)) ∧ w.cell? ⟨b, off + i * 5 + 3, none⟩ = some (.slice ka l[i].m.key.length kc) ∧ w.cell? ⟨b, off + i * 5 + 4, none⟩ = some (.slice fa l[i].m.fields.length fc) ∧ ValsAt w ka l[i].m.key ∧ ValsAt w fa l[i].m.fields) ∧ b < w.heap.size
section
variable {H : Type} {enc : TypeId × Value → H} {w : World} {base : Nat} {spare : Nat → Bool} {held : Bool}
theorem cells_actT : Try.prog.cellsOf 32 = 5 := by kernel_rfl
theorem bytes_actT : 1 ≤ Try.prog.bytesOf 32 := of_decide_eq_true (by kernel_rfl)
theorem act_open {n : Nat} {cs : List Value} {x : DataW H × List MemPlace} (hlen : cs.length = 5) (h : DataW.trod enc Try.prog w base spare held n 32 cs = some x) (hW : Wt 32 x.1) :
    ∃ (x : ActP) (ka : Option Addr) (kc : Nat) (fa : Option Addr) (fc : Nat), cs = [.int .i64 x.what, .int .i64 x.m.id, .string (S x.m.chan), .slice ka x.m.key.length kc, .slice fa x.m.fields.length fc] ∧ Num64 x.what ∧ MBig x.m ∧ ValsAt w ka x.m.key ∧ ValsAt w fa x.m.fields := by
  match cs, hlen with
  | [c0, c1, c2, c3, c4], _ =>
    obtain ⟨ys, m, _, rfl, _, hyl, hf⟩ := DataW.trod_struct Try.underlying32 h
    have hyl : ys.length = 2 := hyl
    have f0 := hf 0 _ rfl
    change DataW.trod _ _ _ _ _ _ _ 3 (([c0, c1, c2, c3, c4].drop 0).take (Try.prog.cellsOf 3)) = _ at f0
    rw [cells_intT] at f0
    simp only [List.drop_zero, List.drop_succ_cons, List.take_succ_cons, List.take_zero] at f0
    rw [List.getElem?_eq_getElem (by omega)] at f0
    obtain ⟨z0, e0, b0⟩ := int_open f0
    have f1 := hf 1 _ rfl
    change DataW.trod _ _ _ _ _ _ _ 30 (([c0, c1, c2, c3, c4].drop 1).take (Try.prog.cellsOf 30)) = _ at f1
    rw [cells_mailT] at f1
    simp only [List.drop_zero, List.drop_succ_cons, List.take_succ_cons, List.take_zero] at f1
    rw [List.getElem?_eq_getElem (by omega)] at f1
    have w1 := hW.field (j := 1) Try.underlying32 rfl (by rw [List.getElem?_map, List.getElem?_eq_getElem (by omega)]; rfl)
    obtain ⟨m1, ka, kc, fa, fc, e1, b1, g1, g1b⟩ := mail_open rfl f1 w1
    simp only [List.cons.injEq, and_true] at e0 e1
    obtain ⟨h10, h11, h12, h13⟩ := e1
    subst e0 h10 h11 h12 h13
    exact ⟨⟨z0, m1⟩, ka, kc, fa, fc, rfl, b0, b1, g1, g1b⟩
theorem acts_open {n : Nat} {cs : List Value} {x : DataW H × List MemPlace} (h : DataW.trod enc Try.prog w base spare held n 22 cs = some x) (hW : Wt 22 x.1) :
    ∃ (l : List ActP) (a : Option Addr) (cap : Nat), cs = [.slice a l.length cap] ∧ l.length ≤ 281474976710656 ∧ ActsAt w a l ∧ ∀ v ∈ l, ABig v := by
  rcases slice_elems Try.underlying22 cells_actT h hW with hcs | ⟨p, len, cap, m, D, Pl, _, hcs, hl, hi⟩
  · exact ⟨[], none, 0, hcs, by simp, fun i hi => absurd hi (by simp), fun a ha => by simp at ha⟩
  · obtain ⟨l, hll, hp⟩ := choose_list (α := ActP) (n := len) (p := fun i v => (∃ ka kc fa fc, w.cell? ((p.add (i * 5)).add 0) = some (.int .i64 v.what) ∧ w.cell? ((p.add (i * 5)).add 1) = some (.int .i64 v.m.id) ∧ w.cell? ((p.add (i * 5)).add 2) = some (.string (S v.m.chan)) ∧ w.cell? ((p.add (i * 5)).add 3) = some (.slice ka v.m.key.length kc) ∧ w.cell? ((p.add (i * 5)).add 4) = some (.slice fa v.m.fields.length fc) ∧ ValsAt w ka v.m.key ∧ ValsAt w fa v.m.fields) ∧ ABig v) (fun i hil => by
      obtain ⟨cs', h1, h2, h3⟩ := hi i hil
      obtain ⟨hcl, hat⟩ := cells_at h1
      obtain ⟨v, ka, kc, fa, fc, rfl, hv1, hv3, hn1, hn2⟩ := act_open hcl h2 h3
      exact ⟨v, ⟨ka, kc, fa, fc, hat 0 (by omega), hat 1 (by omega), hat 2 (by omega), hat 3 (by omega), hat 4 (by omega), hn1, hn2⟩, ⟨hv1, hv3⟩⟩)
    refine ⟨l, some p, cap, by rw [hll]; exact hcs, by rw [hll]; exact len_of hl bytes_actT, fun i hil => ?_, fun a ha => ?_⟩
    · obtain ⟨⟨ka, kc, fa, fc, g0, g1, g2, g3, g4, hn1, hn2⟩, _⟩ := hp i hil
      obtain ⟨⟨_, _, _, _, g00, _⟩, _⟩ := hp 0 (by omega)
      obtain ⟨b, off, spot⟩ := p
      have hspot : spot = none := by simpa [Addr.add] using World.cell?_spot g00
      subst hspot
      rw [add_add] at g0 g1 g2 g3 g4
      exact ⟨b, off, ka, kc, fa, fc, rfl, ⟨g0, g1, g2, g3, g4, hn1, hn2⟩, World.block_lt_of_cell? w _ g0⟩
    · obtain ⟨i, hil, rfl⟩ := List.mem_iff_getElem.1 ha
      exact (hp i hil).2
end

end Go.Proofs.Ytfkmpegbidojoaa.Md
