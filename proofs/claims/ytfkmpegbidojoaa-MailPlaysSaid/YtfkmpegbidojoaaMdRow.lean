/-
  A row of messages of a call's own.
-/
import Derived.Test.YtfkmpegbidojoaaMdTake2
import Derived.Laws.AppendOwn
namespace Go.Proofs.Ytfkmpegbidojoaa.Md
open Go.RowKit
open Va
set_option linter.unusedVariables false
set_option linter.unusedSimpArgs false

/-- A message and where its rows lie. -/
structure MK where
  m : MailP
  ka : Option Addr
  kc : Nat
  fa : Option Addr
  fc : Nat
def MK.cells (y : MK) : List Value := [.int .i64 y.m.id, .string (S y.m.chan), .slice y.ka y.m.key.length y.kc, .slice y.fa y.m.fields.length y.fc]
def dM (d : List MK) : List Value := d.flatMap MK.cells
structure OutAt (B : Nat) (w : World) (q : Option Addr) (d : List MK) (cap : Nat) : Prop where
  own : w.ownsRow B 30 4 (.slice q d.length cap) d.length (dM d)
  rows : ∀ y ∈ d, TwR B w y.ka y.m.key ∧ TwR B w y.fa y.m.fields
theorem OutAt.nil (B : Nat) (w : World) : OutAt B w none [] 0 := ⟨World.ownsRow_nil _ _ _ _, fun y hy => by simp at hy⟩
theorem OutAt.agree {B cap : Nat} {w w' : World} {q : Option Addr} {d : List MK} (h : OutAt B w q d cap) (ag : ∀ b t, (t = 64 ∨ t = 2 ∨ t = 30) → B ≤ b → Blk w b t → w'.heap[b]? = w.heap[b]?) : OutAt B w' q d cap := by
  refine ⟨⟨h.own.1, ?_⟩, fun y hy => ⟨(h.rows y hy).1.agree fun b t ht => ag b t (by rcases ht with h | h <;> simp [h]), (h.rows y hy).2.agree fun b t ht => ag b t (by rcases ht with h | h <;> simp [h])⟩⟩
  rcases h.own.2 with h0 | ⟨b, cap2, cur, e, hB, hc, rest⟩
  · exact .inl h0
  · exact .inr ⟨b, cap2, cur, e, hB, (ag b _ (.inr (.inr rfl)) hB ⟨_, hc⟩).trans hc, rest⟩
theorem OutAt.below {B cap : Nat} {w w' : World} {q : Option Addr} {d : List MK} (h : OutAt B w q d cap) (k : Below w.heap.size w w') : OutAt B w' q d cap := h.agree fun b _ _ _ hb => k.block b hb.lt
theorem OutAt.chan {B cap : Nat} {w : World} {q : Option Addr} {d : List MK} (h : OutAt B w q d cap) {c cap1 cap2 : Nat} {buf b2 : Array Value} {cl cl2 : Bool} {s r s2 r2 : Nat} {tm tm2 : Bool} (hc : w.heap[c]? = some (.chan cap1 buf cl s r tm)) : OutAt B (w.setChan c cap2 b2 cl2 s2 r2 tm2) q d cap :=
  h.agree fun b t _ _ hb => setChan_other (fun e => not_chan hc t (e ▸ hb))
theorem info_ptM {P : Program} {t : TypeId} {z : Value} {s b : Nat} (h : (P.info? t).map (fun i => (i.zero, i.size, i.bytes)) = some (some z, s, b)) : ∃ i, P.info? t = some i ∧ i.zero = some z ∧ i.size = s ∧ i.bytes = b := by
  obtain ⟨i, hi, h2⟩ := Option.map_eq_some_iff.1 h
  simp only [Prod.mk.injEq] at h2
  exact ⟨i, hi, h2.1, h2.2.1, h2.2.2⟩
theorem infoM : (Try.prog.info? 30).map (fun i => (i.zero, i.size, i.bytes)) = some (some (.agg #[.int .i64 0, .string ⟨#[]⟩, .slice none 0 0, .slice none 0 0]), 4, 72) := by kernel_rfl
/-- One message more. -/
theorem OutAt.app {B cap : Nat} {w : World} {q : Option Addr} {d : List MK} (h : OutAt B w q d cap) (hB : B ≤ w.heap.size) (hn : d.length ≤ 100000) (y : MK)
    (hk : TwR B w y.ka y.m.key) (hf : TwR B w y.fa y.m.fields) (K : Nat) (hK : w.heap.size = K) :
    ∃ q' cap' w', (Builtin.append_ #[38, 38] 38 #[.slice q d.length cap, .slice (some ⟨K, 0, none⟩) 1 1]).run Try.prog (w.alloc (.cells #[.int .i64 y.m.id, .string (S y.m.chan), .slice y.ka y.m.key.length y.kc, .slice y.fa y.m.fields.length y.fc] 30)) = .ok (.slice q' (d.length + 1) cap') w' ∧
      OutAt B w' q' (d ++ [y]) cap' ∧ Below B w w' ∧ ∀ b, b < w.heap.size → ¬ Blk w b 30 → w'.heap[b]? = w.heap[b]? := by
  subst hK
  obtain ⟨i0, hi, hz0, hz1, hz2⟩ := info_ptM infoM
  have kk := (Below.refl w.heap.size w).alloc (Nat.le_refl _) (.cells #[.int .i64 y.m.id, .string (S y.m.chan), .slice y.ka y.m.key.length y.kc, .slice y.fa y.m.fields.length y.fc] 30)
  have hnew := heap_alloc_new w (.cells #[.int .i64 y.m.id, .string (S y.m.chan), .slice y.ka y.m.key.length y.kc, .slice y.fa y.m.fields.length y.fc] 30)
  have hs1 : (w.alloc (.cells #[.int .i64 y.m.id, .string (S y.m.chan), .slice y.ka y.m.key.length y.kc, .slice y.fa y.m.fields.length y.fc] 30)).heap.size = w.heap.size + 1 := by simp
  have hA := h.below kk
  have hk1 := TwR.below hk kk
  have hf1 := TwR.below hf kk
  generalize w.alloc (.cells #[.int .i64 y.m.id, .string (S y.m.chan), .slice y.ka y.m.key.length y.kc, .slice y.fa y.m.fields.length y.fc] 30) = w1 at *
  have hnews : ∀ j u, y.cells[j]? = some u → w1.cell? ((⟨w.heap.size, 0, none⟩ : Addr).add j) = some u := by
    intro j u hj
    have hadd : (⟨w.heap.size, 0, none⟩ : Addr).add j = ⟨w.heap.size, j, none⟩ := by unfold Addr.add; split <;> simp_all
    rw [hadd, cell_of_row _ w.heap.size j _ _ (0, 0) hnew]
    simpa [MK.cells] using hj
  have h1 : ∀ u ∈ y.cells, u.oneCell' = true := by
    intro u hu
    simp only [MK.cells, List.mem_cons, List.not_mem_nil, or_false] at hu
    rcases hu with rfl | rfl | rfl | rfl <;> rfl
  obtain ⟨v', w', hr, h2, h3, _⟩ := run_append_own (P := Try.prog) w1 B 38 38 30 i0 _ 4 72 Try.underlying38 hi hz0 hz1 hz2 rfl (by decide) (.slice q d.length cap) d.length (dM d) hA.own ⟨w.heap.size, 0, none⟩ 1 1 y.cells rfl hnews h1 (by unfold maxLen; omega) (by omega) (by omega)
  have hlen : (d ++ [y]).length = d.length + 1 := by simp
  have hcs : dM (d ++ [y]) = dM d ++ y.cells := by simp [dM]
  have hag : ∀ b t, (t = 64 ∨ t = 2) → B ≤ b → Blk w1 b t → w'.heap[b]? = w1.heap[b]? := fun b t ht _ hb => h3.block b hb.lt (fun e => by
    rcases hA.own.2 with ⟨e0, _⟩ | ⟨g, cap2, cur, e1, hB1, hc, _⟩
    · rw [e0] at e; cases e
    · injection e1 with e2 _ _
      rw [e2] at e
      injection e with e
      subst e
      exact not_blk ⟨_, hc⟩ (by decide) (by decide) t ht hb)
  rcases h2.2 with ⟨_, h0⟩ | ⟨g, cap2, cur, rfl, rr⟩
  · omega
  · refine ⟨_, _, w', hr, ⟨?_, fun z hz => ?_⟩, (kk.mono (by omega)).grown h3 (by omega) (fun k hk => (World.ownsRow.lt hA.own k hk).1), fun b hb hnb => ?_⟩
    · rw [hlen, hcs]; exact h2
    · rcases List.mem_append.1 hz with hz | hz
      · exact ⟨(hA.rows z hz).1.agree hag, (hA.rows z hz).2.agree hag⟩
      · obtain rfl : z = y := by simpa using hz
        exact ⟨TwR.agree hk1 hag, TwR.agree hf1 hag⟩
    · refine (h3.block b (by omega) (fun e => ?_)).trans (kk.block b hb)
      rcases h.own.2 with ⟨e0, _⟩ | ⟨g, cap2, cur, e1, hB1, hc, _⟩
      · rw [e0] at e; cases e
      · injection e1 with e2 _ _
        rw [e2] at e
        injection e with e
        subst e
        exact hnb ⟨_, hc⟩
theorem dM_len (d : List MK) : (dM d).length = d.length * 4 := by
  induction d with
  | nil => rfl
  | cons y r ih => unfold dM at *; rw [List.flatMap_cons, List.length_append, ih]; simp [MK.cells]; omega
theorem dM_get : ∀ (d : List MK) (i j : Nat) (h : i < d.length), j < 4 → (dM d)[i * 4 + j]? = d[i].cells[j]?
  | [], i, j, h, _ => absurd h (by simp)
  | y :: r, 0, j, h, hj => by
    unfold dM
    rw [List.flatMap_cons, List.getElem?_append_left (by simp [MK.cells]; omega)]
    simp
  | y :: r, i + 1, j, h, hj => by
    have ih := dM_get r i j (by simpa using h) hj
    unfold dM at *
    rw [List.flatMap_cons, List.getElem?_append_right (by simp [MK.cells]; omega)]
    rw [show (i + 1) * 4 + j - y.cells.length = i * 4 + j by simp [MK.cells]; omega, ih]
    simp
theorem own_cell {B cap : Nat} {w : World} {q : Option Addr} {d : List MK} (h : w.ownsRow B 30 4 (.slice q d.length cap) d.length (dM d)) (i : Nat) (hi : i < d.length) :
    ∃ g, q = some ⟨g, 0, none⟩ ∧ B ≤ g ∧ Blk w g 30 ∧ w.cell? ⟨g, i * 4, none⟩ = some (.int .i64 d[i].m.id) ∧ w.cell? ⟨g, i * 4 + 1, none⟩ = some (.string (S d[i].m.chan)) ∧ w.cell? ⟨g, i * 4 + 2, none⟩ = some (.slice d[i].ka d[i].m.key.length d[i].kc) ∧ w.cell? ⟨g, i * 4 + 3, none⟩ = some (.slice d[i].fa d[i].m.fields.length d[i].fc) := by
  rcases h.2 with ⟨_, h0⟩ | ⟨g, cap2, cur, e, hB, hc, _⟩
  · omega
  · injection e with e1 e2 e3
    subst e1
    have hl := dM_len d
    have get : ∀ j u, j < 4 → d[i].cells[j]? = some u → w.cell? ⟨g, i * 4 + j, none⟩ = some u := fun j u hj hu => by
      have hlt : i * 4 + j < (dM d).length := by omega
      exact (h.cellAt (i * 4 + j) (by omega)).trans ((dM_get d i j hi hj).trans hu)
    exact ⟨g, rfl, hB, ⟨_, hc⟩, get 0 _ (by omega) rfl, get 1 _ (by omega) rfl, get 2 _ (by omega) rfl, get 3 _ (by omega) rfl⟩
theorem OutAt.cell {B cap : Nat} {w : World} {q : Option Addr} {d : List MK} (h : OutAt B w q d cap) (i : Nat) (hi : i < d.length) :
    ∃ g, q = some ⟨g, 0, none⟩ ∧ B ≤ g ∧ Blk w g 30 ∧ w.cell? ⟨g, i * 4, none⟩ = some (.int .i64 d[i].m.id) ∧ w.cell? ⟨g, i * 4 + 1, none⟩ = some (.string (S d[i].m.chan)) ∧ w.cell? ⟨g, i * 4 + 2, none⟩ = some (.slice d[i].ka d[i].m.key.length d[i].kc) ∧ w.cell? ⟨g, i * 4 + 3, none⟩ = some (.slice d[i].fa d[i].m.fields.length d[i].fc) := own_cell h.own i hi
theorem OutAt.mails {B cap : Nat} {w : World} {q : Option Addr} {d : List MK} {l : List MailP} (h : OutAt B w q d cap) (hd : d.map (·.m) = l) : MailsAt w q l := fun i hi => by
  subst hd
  have hil : i < d.length := by simpa using hi
  obtain ⟨g, rfl, _, hb, h0, h1, h2, h3⟩ := h.cell i hil
  have hr := h.rows d[i] (List.getElem_mem _)
  refine ⟨g, 0, d[i].ka, d[i].kc, d[i].fa, d[i].fc, rfl, ?_, hb.lt⟩
  simp only [List.getElem_map, Nat.zero_add]
  exact ⟨h0, h1, h2, h3, TwR.vals hr.1, TwR.vals hr.2⟩

end Go.Proofs.Ytfkmpegbidojoaa.Md
