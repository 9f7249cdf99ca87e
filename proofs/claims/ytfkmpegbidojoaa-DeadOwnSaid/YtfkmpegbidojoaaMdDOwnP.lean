/-
  A row of letters of the call's own: one more behind it; the numbers in its values are changed by their owner.
-/
import Derived.Test.YtfkmpegbidojoaaMdPutS
import Derived.Test.YtfkmpegbidojoaaMdOrderP
import Derived.Test.YtfkmpegbidojoaaMdFind
namespace Go.Proofs.Ytfkmpegbidojoaa.Md
open Go.RowKit
open Va
set_option linter.unusedVariables false
set_option linter.unusedSimpArgs false

structure MuD (B : Nat) (w : World) (q : Option Addr) (d : List DK) (cap : Nat) : Prop where
  own : w.ownsRow B 46 6 (.slice q d.length cap) d.length (dD d)
  nums : ∀ y ∈ d, NumRow B w y.fa y.x.mail.fields.length
theorem MuD.nil (B : Nat) (w : World) : MuD B w none [] 0 := ⟨World.ownsRow_nil _ _ _ _, fun y hy => by simp at hy⟩
theorem ownD_agree {B cap : Nat} {w w' : World} {q : Option Addr} {d : List DK} (h : w.ownsRow B 46 6 (.slice q d.length cap) d.length (dD d)) (ag : ∀ b, Blk w b 46 → w'.heap[b]? = w.heap[b]?) : w'.ownsRow B 46 6 (.slice q d.length cap) d.length (dD d) := by
  refine ⟨h.1, ?_⟩
  rcases h.2 with h0 | ⟨b, cap2, cur, e, hB, hc, rest⟩
  · exact .inl h0
  · exact .inr ⟨b, cap2, cur, e, hB, (ag b ⟨_, hc⟩).trans hc, rest⟩
theorem MuD.below {B cap : Nat} {w w' : World} {q : Option Addr} {d : List DK} (h : MuD B w q d cap) (k : Below w.heap.size w w') : MuD B w' q d cap :=
  ⟨ownD_agree h.own fun b hb => k.block b hb.lt, fun y hy => (h.nums y hy).agree fun b hb => k.block b hb.lt⟩
theorem MuD.set {B cap : Nat} {w : World} {q : Option Addr} {d : List DK} (h : MuD B w q d cap) (G i : Nat) (z : Int) (hb : Blk w G 64) (hz : ∃ z0, w.cell? ⟨G, i * 4 + 1, none⟩ = some (.int .i64 z0)) : MuD B (w.setCell ⟨G, i * 4 + 1, none⟩ (.int .i64 z)) q d cap :=
  ⟨ownD_agree h.own fun b hb2 => Below.heap_setCell _ _ _ _ (hb2.apart hb (by decide)), fun y hy => (h.nums y hy).set G i z hz⟩
theorem MuD.cell {B cap : Nat} {w : World} {q : Option Addr} {d : List DK} (h : MuD B w q d cap) (i : Nat) (hi : i < d.length) :
    ∃ g, q = some ⟨g, 0, none⟩ ∧ B ≤ g ∧ Blk w g 46 ∧ DAt w g (i * 6) d[i].x d[i].ka d[i].kc d[i].fa d[i].fc := by
  rcases h.own.2 with ⟨_, h0⟩ | ⟨g, cap2, cur, e, hB, hc, _⟩
  · omega
  · injection e with e1 e2 e3
    subst e1
    have hl := dD_len d
    have get : ∀ j u, j < 6 → d[i].cells[j]? = some u → w.cell? ⟨g, i * 6 + j, none⟩ = some u := fun j u hj hu => by
      exact (h.own.cellAt (i * 6 + j) (by omega)).trans ((dD_get d i j hi hj).trans hu)
    exact ⟨g, rfl, hB, ⟨_, hc⟩, get 0 _ (by omega) rfl, get 1 _ (by omega) rfl, get 2 _ (by omega) rfl, get 3 _ (by omega) rfl, get 4 _ (by omega) rfl, get 5 _ (by omega) rfl⟩
/-- Twins are such a row. -/
theorem DwS.mu {c lo G : Nat} {l : List DeadP} {w : World} (h : DwS c lo G l l.length w) (hc : l.length ≤ c) : ∃ d : List DK, d.map (·.x) = l ∧ MuD lo w (some ⟨G, 0, none⟩) d c := by
  have hd : DeadsAt w (some ⟨G, 0, none⟩) l := DwR.deads (lo := lo) (.inr ⟨G, rfl, h.toDwP⟩)
  obtain ⟨e, he, hev, her⟩ := rows_of hd
  have hr := her G 0 rfl
  have hel : e.length = l.length := by rw [← he, List.length_map]
  obtain ⟨hm, cs, hh, hs⟩ := h.siz
  refine ⟨e, he, ⟨⟨dD_len e, .inr ⟨G, c, cs, rfl, h.ge, hh, by omega, hm, hs, ?_⟩⟩, fun y hy => ?_⟩⟩
  · refine List.ext_getElem? fun j => ?_
    by_cases hj : j < e.length * 6
    · have hj2 : j < (dD e).length := by rw [dD_len]; exact hj
      have h1 := hr j _ (List.getElem?_eq_getElem hj2)
      rw [Nat.zero_add, cell_of_row w G j cs _ _ hh] at h1
      rw [List.getElem?_take_of_lt hj, Array.getElem?_toList, h1, List.getElem?_eq_getElem hj2]
    · rw [List.getElem?_eq_none (by simp; omega), List.getElem?_eq_none (by rw [dD_len]; omega)]
  · obtain ⟨i, hi, rfl⟩ := List.mem_iff_getElem.1 hy
    have hxi : l[i]? = some e[i].x := by rw [← he]; simp [hi]
    obtain ⟨ka, kc, fa, fc, ⟨_, _, _, _, c4, _⟩, ht⟩ := h.cells i _ hxi
    obtain ⟨_, _, _, _, c4', _⟩ := hr.cells i hi
    rw [Nat.zero_add] at c4'
    have e4 := Option.some.inj (c4'.symm.trans c4)
    injection e4 with e5 _ _
    rw [e5]
    exact TwR.nums (ht (by omega)).2
set_option maxRecDepth 100000 in
/-- One letter more. -/
theorem MuD.app {B cap : Nat} {w : World} {q : Option Addr} {d : List DK} (h : MuD B w q d cap) (hB : B ≤ w.heap.size) (hn : d.length ≤ 99999) (y : DK) (K : Nat) (hr : RowsOf w K 0 [y]) (hy : NumRow B w y.fa y.x.mail.fields.length) :
    ∃ q' cap' w', (Builtin.append_ #[44, 44] 44 #[.slice q d.length cap, .slice (some ⟨K, 0, none⟩) 1 1]).run Try.prog w = .ok (.slice q' (d.length + 1) cap') w' ∧ MuD B w' q' (d ++ [y]) cap' ∧ Below B w w' := by
  obtain ⟨i0, hi, hz0, hz1, hz2⟩ := info_ptD infoD
  have hadd : ∀ j, (⟨K, 0, none⟩ : Addr).add j = ⟨K, 0 + j, none⟩ := fun j => by unfold Addr.add; split <;> simp_all
  obtain ⟨v', w', hrun, h2, h3, h4⟩ := run_append_own (P := Try.prog) w B 44 44 46 i0 _ 6 88 Try.underlying44 hi hz0 hz1 hz2 rfl (by decide) (.slice q d.length cap) d.length (dD d) h.own ⟨K, 0, none⟩ 1 1 (dD [y]) (dD_len [y]) (fun j u hj => by rw [hadd]; exact hr j u hj) (dD_one [y]) (by unfold maxLen; omega) (by omega) hB
  have hlen : (d ++ [y]).length = d.length + 1 := by simp
  have hcs : dD (d ++ [y]) = dD d ++ dD [y] := by simp [dD]
  have hbel : Below B w w' := (Below.refl B w).grown h3 (by omega) (fun k hk => (World.ownsRow.lt h.own k hk).1)
  have hag : ∀ b, Blk w b 64 → w'.heap[b]? = w.heap[b]? := fun b hb => h3.block b hb.lt (fun e => by
    rcases h.own.2 with ⟨e1, _⟩ | ⟨g, cp, cur, e1, _, hg, _⟩
    · rw [e1] at e; cases e
    · rw [e1] at e
      obtain rfl : b = g := by simpa [Value.ownBlock] using e
      exact hb.apart ⟨_, hg⟩ (by decide) rfl)
  have hnums : ∀ z ∈ d ++ [y], NumRow B w' z.fa z.x.mail.fields.length := fun z hz => by
    rcases List.mem_append.1 hz with hz | hz
    · exact (h.nums z hz).agree hag
    · obtain rfl : z = y := by simpa using hz
      exact hy.agree hag
  rcases h2.2 with ⟨rfl, h0⟩ | ⟨g, cap2, cur, rfl, rr⟩
  · omega
  · exact ⟨_, _, w', hrun, ⟨by rw [hlen, hcs]; exact h2, hnums⟩, hbel⟩
theorem NumRow.mono {lo hi : Nat} {w : World} {a : Option Addr} {n : Nat} (h : NumRow hi w a n) (k : lo ≤ hi) : NumRow lo w a n := by
  rcases h with h | ⟨G, e, hB, r⟩
  · exact .inl h
  · exact .inr ⟨G, e, Nat.le_trans k hB, r⟩
theorem findL_head {l : List DeadP} (h : 0 < l.length) : findL l l[0].n = some l[0] := by
  cases l with
  | nil => simp at h
  | cons x r => simp [findL]

/-- The letters that Put hands out; none at a fault. -/
def putL (l : List DeadP) (n : Int) (m : MailP) (r most : Int) : List DeadP := if putE l n r most = 0 then l ++ [⟨n, m, r⟩] else []
theorem putL_len (l : List DeadP) (n : Int) (m : MailP) (r most : Int) : (putL l n m r most).length ≤ l.length + 1 := by
  unfold putL; split <;> simp
theorem putL_mem {l : List DeadP} {n : Int} {m : MailP} {r most : Int} {x : DeadP} (h : x ∈ putL l n m r most) : x ∈ l ∨ x = ⟨n, m, r⟩ := by
  unfold putL at h
  split at h
  · simpa using h
  · simp at h
theorem PuttedS.flat {l : List DeadP} {n : Int} {m : MailP} {r most : Int} {w w' : World} {e : Ending} (h : PuttedS l n m r most w e w') :
    ∃ q cp, e = .returned (.tuple #[.slice q (putL l n m r most).length cp, .int .i64 (putE l n r most)]) ∧ DeadsAt w' q (putL l n m r most) ∧ ∃ d : List DK, d.map (·.x) = putL l n m r most ∧ MuD w.heap.size w' q d cp := by
  unfold PuttedS at h
  unfold putL
  by_cases hp : putE l n r most = 0
  · rw [if_pos hp] at h ⊢
    obtain ⟨G, cp, rfl, hs, hc⟩ := h
    have hl : (l ++ [(⟨n, m, r⟩ : DeadP)]).length = l.length + 1 := by simp
    rw [← hl] at hs hc
    rw [hp, hl]
    exact ⟨_, cp, rfl, DwR.deads (lo := w.heap.size) (.inr ⟨G, rfl, hs.toDwP⟩), hs.mu hc⟩
  · rw [if_neg hp] at h ⊢
    subst h
    exact ⟨none, 0, rfl, fun i hi => absurd hi (by simp), [], rfl, MuD.nil _ _⟩

end Go.Proofs.Ytfkmpegbidojoaa.Md
