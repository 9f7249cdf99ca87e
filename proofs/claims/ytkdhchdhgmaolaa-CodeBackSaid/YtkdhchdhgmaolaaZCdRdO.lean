/-
  Artifacts, dead letters, events that are read, as plain functions; rows of counters in memory.
-/
import Derived.Test.YtkdhchdhgmaolaaZCdRdI
import Derived.Test.YtkdhchdhgmaolaaZCdRdK
namespace Go.Proofs.Ytkdhchdhgmaolaa.Cd
open Go.RowKit
open Pk Va
set_option linter.unusedVariables false
set_option linter.unusedSimpArgs false

def pItem (l : List UInt8) (b : Nat) : Rs ItemP :=
  let i := pNum l b
  let s := pNum i.2.1 i.2.2
  let t := pText 24 s.2.1 s.2.2
  let z := pText 24 t.2.1 t.2.2
  let a := pAll pVal 16 z.2.1 z.2.2
  let c := pAll pCnt 16 a.2.1 a.2.2
  let x := pAll pMail 4096 c.2.1 c.2.2
  (⟨i.1, t.1, z.1, s.1, a.1, c.1, x.1⟩, x.2)
def pDead (l : List UInt8) (b : Nat) : Rs DeadP :=
  let n := pNum l b
  let m := pMail n.2.1 n.2.2
  let s := pSmall 5 m.2.1 m.2.2
  (⟨n.1, m.1, (s.1 : Int)⟩, s.2)
def pEvent (l : List UInt8) (b : Nat) : Rs EventP :=
  let n := pNum l b
  let t := pNum n.2.1 n.2.2
  let i := pNum t.2.1 t.2.2
  let a := pText 24 i.2.1 i.2.2
  let y := pText 24 a.2.1 a.2.2
  let z := pText 24 y.2.1 y.2.2
  let v := pAll pVal 16 z.2.1 z.2.2
  (⟨n.1, t.1, a.1, i.1, y.1, z.1, v.1⟩, v.2)

/-- A row of counters that was read, in memory. -/
structure CRow (B r : Nat) (w : World) (q : Option Addr) (l : List Int) : Prop where
  at_ : NumsAt w q l
  own : ∀ g off, q = some ⟨g, off, none⟩ → l ≠ [] → B ≤ g ∧ OffR r g w
theorem CRow.nil (B r : Nat) (w : World) : CRow B r w none [] := ⟨fun i hi => absurd hi (by simp), fun _ _ e => by cases e⟩
theorem CRow.keep {B H r R : Nat} {l l' : List UInt8} {b b' : Nat} {w w' : World} {q : Option Addr} {d : List Int} (h : CRow B r w q d) (hR : RdrR H r R l b w) (t : RdTo H r l' b' w w') : CRow B r w' q d :=
  ⟨NumsAt.of_block h.at_ t.size (fun g off e hn => (t.keeps g (h.own g off e hn).2).1), fun g off e hn => ⟨(h.own g off e hn).1, (t.keeps g (h.own g off e hn).2).2⟩⟩
theorem CRow.below {B H r R : Nat} {l : List UInt8} {b : Nat} {w w' : World} {q : Option Addr} {d : List Int} (h : CRow B r w q d) (hR : RdrR H r R l b w) (k : Below w.heap.size w w') : CRow B r w' q d := h.keep hR (RdTo.of_below hR k)
theorem CRow.mono {B B' r : Nat} {w : World} {q : Option Addr} {d : List Int} (h : CRow B r w q d) (hB : B' ≤ B) : CRow B' r w q d :=
  ⟨h.at_, fun g off e hn => ⟨Nat.le_trans hB (h.own g off e hn).1, (h.own g off e hn).2⟩⟩
theorem CRow.set {B r g j : Nat} {w : World} {q : Option Addr} {d : List Int} (h : CRow B r w q d) (hg : g < B) (hr : g ≠ r) (v : Value) : CRow B r (w.setCell ⟨g, j, none⟩ v) q d :=
  ⟨NumsAt.set h.at_ g (fun b off e hn => by have := (h.own b off e hn).1; omega) j v, fun b off e hn => ⟨(h.own b off e hn).1, (h.own b off e hn).2.set hr v⟩⟩
theorem pCnts_short (l : List UInt8) (b : Nat) (h : l.length ≤ 2000000) : (pAll pCnt 16 l b).2.1.length ≤ 2000000 := pAll_short pCnt 2000000 (fun l b h => Nat.le_trans (rdG_short _ _ _ _) h) 16 l b h
theorem allC_k (H r R : Nat) (l : List UInt8) (hl : l.length ≤ 2000000) (bad : Nat) (w : World) (h : RdrR H r R l bad w) :
    Calls Try.prog 82 #[.pointer (some ⟨r, 0, none⟩), .int .i64 16, .func (Fn.func 83) #[] #[]] w fun e w' =>
      ∃ q cap, e = .returned (.slice q (pAll pCnt 16 l bad).1.length cap) ∧ RdTo H r (pAll pCnt 16 l bad).2.1 (pAll pCnt 16 l bad).2.2 w w' ∧ CRow w.heap.size r w' q (pAll pCnt 16 l bad).1 :=
  (allC_r H r R l hl bad w h).mono fun _ _ ⟨q, c, h1, h2, h3, h4⟩ => ⟨q, c, h1, h2, h3, h4⟩
theorem MRow.set {B r cap g j : Nat} {w : World} {q : Option Addr} {d : List MK} (h : MRow B r w q d cap) (hg : g < B) (hr : g ≠ r) (v : Value) : MRow B r (w.setCell ⟨g, j, none⟩ v) q d cap := by
  refine ⟨⟨h.own.1, ?_⟩, fun y hy => ⟨(h.rows y hy).1.set hg hr v, (h.rows y hy).2.1.set hg hr v, (h.rows y hy).2.2⟩⟩
  rcases h.own.2 with h0 | ⟨g2, cap2, cur, e, hb, hc, rest⟩
  · exact .inl h0
  · exact .inr ⟨g2, cap2, cur, e, hb, (heap_setCell_other w ⟨g, j, none⟩ g2 v (show g2 ≠ g by omega)).trans hc, rest⟩
end Go.Proofs.Ytkdhchdhgmaolaa.Cd
