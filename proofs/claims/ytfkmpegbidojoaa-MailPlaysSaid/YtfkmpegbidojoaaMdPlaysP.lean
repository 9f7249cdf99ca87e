/-
  MailPlays: the two boxes side by side.
-/
import Derived.Test.YtfkmpegbidojoaaMdRTak
import Derived.Test.YtfkmpegbidojoaaMdActs
import Derived.Test.YtfkmpegbidojoaaMdAll
import Derived.Test.YtfkmpegbidojoaaMdAwake
import Derived.Test.YtfkmpegbidojoaaMdSameR
namespace Go.Proofs.Ytfkmpegbidojoaa.Md
open Go.RowKit
open Va
set_option linter.unusedVariables false
set_option linter.unusedSimpArgs false

def BA (w : World) (H : Nat) (a b c d e : Value) : Prop := w.heap[H]? = some (.cells #[a, b, c, d, e] 32 (0, 0))
section
variable {w w' : World} {H : Nat} {a b c d e : Value}
theorem BA.c0 (h : BA w H a b c d e) : w.cell? ⟨H, 0, none⟩ = some a := cell_of_row w H 0 _ _ (0, 0) h
theorem BA.c1 (h : BA w H a b c d e) : w.cell? ⟨H, 1, none⟩ = some b := cell_of_row w H 1 _ _ (0, 0) h
theorem BA.c2 (h : BA w H a b c d e) : w.cell? ⟨H, 2, none⟩ = some c := cell_of_row w H 2 _ _ (0, 0) h
theorem BA.c3 (h : BA w H a b c d e) : w.cell? ⟨H, 3, none⟩ = some d := cell_of_row w H 3 _ _ (0, 0) h
theorem BA.c4 (h : BA w H a b c d e) : w.cell? ⟨H, 4, none⟩ = some e := cell_of_row w H 4 _ _ (0, 0) h
theorem BA.blk (h : BA w H a b c d e) : Blk w H 32 := ⟨_, h⟩
theorem BA.below (h : BA w H a b c d e) (k : Below w.heap.size w w') : BA w' H a b c d e := (k.block H h.blk.lt).trans h
theorem BA.onl {cc : Nat} (h : BA w H a b c d e) (hc : ∀ t, ¬ Blk w cc t) (k : Onl cc w w') : BA w' H a b c d e := (k.block H h.blk.lt (fun e => hc _ (e ▸ h.blk))).trans h
theorem BA.chg {r lo2 cap2 : Nat} {q : Option Addr} {dd : List MK} (h : BA w H a b c d e) (hr : Blk w r 41) (hq : RQ lo2 w q cap2 dd) (k : Chg r q w w') : BA w' H a b c d e :=
  (k.block H h.blk.lt (h.blk.apart hr (by decide)) (hq.ne fun hb => h.blk.apart hb (by decide) rfl)).trans h
end
theorem BoxAt.nochan {lo b c cap : Nat} {w : World} {l : List MailP} (h : BoxAt lo w b c cap l) : ∀ t, ¬ Blk w c t := by
  obtain ⟨buf, s, r, hc, _⟩ := h.chan
  exact not_chan hc
def Vl (W0 : World) (d : List MK) : Prop := ∀ y ∈ d, Msh y.m ∧ ValsAt W0 y.ka y.m.key ∧ ValsAt W0 y.fa y.m.fields
theorem Vl.nil (W0 : World) : Vl W0 [] := fun y h => by simp at h
theorem Vl.app {W0 : World} {d : List MK} {y : MK} (h : Vl W0 d) (hy : Msh y.m ∧ ValsAt W0 y.ka y.m.key ∧ ValsAt W0 y.fa y.m.fields) : Vl W0 (d ++ [y]) := fun z hz => by
  rcases List.mem_append.1 hz with hz | hz
  · exact h z hz
  · obtain rfl : z = y := by simpa using hz
    exact hy
theorem Vl.msh {W0 : World} {d : List MK} (h : Vl W0 d) : ∀ m ∈ d.map (·.m), Msh m := fun m hm => by
  obtain ⟨y, hy, rfl⟩ := List.mem_map.1 hm
  exact (h y hy).1
theorem RQ.mails {lo cap : Nat} {w W0 : World} {q : Option Addr} {d : List MK} (h : RQ lo w q cap d) (hv : Vl W0 d) (k : Below W0.heap.size W0 w) : MailsAt w q (d.map (·.m)) := fun i hi => by
  have hil : i < d.length := by simpa using hi
  rcases h.row with ⟨_, h0, _⟩ | ⟨g, off, cs, e, hlo, hg, h1, h2, h3⟩
  · rw [h0] at hil; simp at hil
  · have hy := hv d[i] (List.getElem_mem _)
    have get : ∀ j u, j < 4 → d[i].cells[j]? = some u → w.cell? ⟨g, off + i * 4 + j, none⟩ = some u := fun j u hj hu => by
      rw [Nat.add_assoc]
      exact h3 _ _ ((dM_get d i j hil hj).trans hu)
    refine ⟨g, off, d[i].ka, d[i].kc, d[i].fa, d[i].fc, e, ?_, lt_of_heapV hg⟩
    simp only [List.getElem_map]
    exact ⟨get 0 _ (by omega) rfl, get 1 _ (by omega) rfl, get 2 _ (by omega) rfl, get 3 _ (by omega) rfl, hy.2.1.below k, hy.2.2.below k⟩
theorem RQ.fresh {lo cap : Nat} {w : World} {q : Option Addr} {d : List MK} (h : RQ lo w q cap d) {k : Nat} (hk : w.heap.size ≤ k) : ∀ o, q ≠ some ⟨k, o, none⟩ := fun o e => by
  rcases h.row with ⟨h1, _⟩ | ⟨g, off, cs, e1, hlo, hg, _⟩
  · rw [h1] at e; cases e
  · rw [e1] at e; injection e with e; injection e with e; subst e; have := lt_of_heapV hg; omega
theorem BM.chg {r : Nat} {q : Option Addr} {w w' : World} {H : Nat} {a b c d : Value} (h : BM w H a b c d) (hr : H ≠ r) (hq : ∀ o, q ≠ some ⟨H, o, none⟩) (k : Chg r q w w') : BM w' H a b c d := (k.block H h.lt hr hq).trans h
theorem sameZ_any (w : World) : Calls Try.prog 12 #[zM, zM] w fun e w' => e = .returned (.bool true) ∧ Below w.heap.size w w' :=
  sameMail_refl ⟨0, [], [], []⟩ ⟨⟨⟨by decide, by decide⟩, fun v hv => by simp at hv, fun v hv => by simp at hv, by simp, by simp, by simp⟩, by simp, by simp⟩ none 0 none 0 none 0 none 0 w (fun i hi => absurd hi (by simp)) (fun i hi => absurd hi (by simp)) (fun i hi => absurd hi (by simp)) (fun i hi => absurd hi (by simp))

end Go.Proofs.Ytfkmpegbidojoaa.Md
