/-
  What the program's reader makes of bytes; as plain functions of what is left and of the error that is kept.
-/
import Derived.Test.YtkdhchdhgmaolaaZPkDec
import Derived.Test.YtkdhchdhgmaolaaZCdPure
namespace Go.Proofs.Ytkdhchdhgmaolaa.Cd
open Pk Va

abbrev Rs (α : Type) := α × List UInt8 × Nat
def pByte (l : List UInt8) (b : Nat) : Rs Nat := rdG 0 (decB l) l b
def pNum (l : List UInt8) (b : Nat) : Rs Int := rdG 0 (decN l) l b
def pTruth (l : List UInt8) (b : Nat) : Rs Bool := rdG false (decT l) l b
def pText (most : Int) (l : List UInt8) (b : Nat) : Rs (List UInt8) := rdG [] (decX l most) l b
def pSmall (most : Int) (l : List UInt8) (b : Nat) : Rs Nat := rdG 0 (decS l most) l b
/-- What reject leaves. -/
def pRej (l : List UInt8) (b : Nat) : List UInt8 × Nat := if b ≠ 0 then (l, b) else ([2], 4)
def pSym (l : List UInt8) (b : Nat) : Rs (List UInt8) :=
  let x := pText 24 l b
  if nameB x.1 = true then x else (x.1, pRej x.2.1 x.2.2)
/-- So many more elements, behind those that were read. -/
def pLoop {α : Type} (f : List UInt8 → Nat → Rs α) : Nat → List α → List UInt8 → Nat → Rs (List α)
  | 0, acc, l, b => (acc, l, b)
  | n + 1, acc, l, b => if (f l b).2.2 ≠ 0 then ([], (f l b).2) else pLoop f n (acc ++ [(f l b).1]) (f l b).2.1 (f l b).2.2
def pAll {α : Type} (f : List UInt8 → Nat → Rs α) (most : Int) (l : List UInt8) (b : Nat) : Rs (List α) :=
  pLoop f (pSmall most l b).1 [] (pSmall most l b).2.1 (pSmall most l b).2.2
def pVal (l : List UInt8) (b : Nat) : Rs V :=
  let k := pByte l b
  if k.1 = 0 then (⟨0, 0, [], []⟩, k.2)
  else if k.1 = 1 then let x := pNum k.2.1 k.2.2; (⟨1, x.1, [], []⟩, x.2)
  else if k.1 = 2 then let x := pTruth k.2.1 k.2.2; (⟨2, if x.1 = true then 1 else 0, [], []⟩, x.2)
  else if k.1 = 3 then let x := pText 64 k.2.1 k.2.2; (⟨3, 0, x.1, []⟩, x.2)
  else if k.1 = 4 then let x := pSym k.2.1 k.2.2; (⟨4, 0, x.1, []⟩, x.2)
  else if k.1 = 5 then let x := pAll pNum 16 k.2.1 k.2.2; (⟨5, 0, [], x.1⟩, x.2)
  else (⟨(k.1 : Int), 0, [], []⟩, pRej k.2.1 k.2.2)

/-- What is left is never longer. -/
def Short (n : Nat) (l : List UInt8) : Prop := l.length ≤ n
theorem rdG_short {α : Type} (z : α) (d : α × Nat × Nat) (l : List UInt8) (b : Nat) : (rdG z d l b).2.1.length ≤ l.length := by
  unfold rdG
  split
  · exact Nat.le_refl _
  · split
    · exact Nat.le_refl _
    · simp
theorem pRej_short (l : List UInt8) (b n : Nat) (h : l.length ≤ n) (hn : 1 ≤ n) : (pRej l b).1.length ≤ n := by
  unfold pRej
  split
  · exact h
  · simpa using hn
theorem pSym_short (l : List UInt8) (b n : Nat) (h : l.length ≤ n) (hn : 1 ≤ n) : (pSym l b).2.1.length ≤ n := by
  have h1 : (pText 24 l b).2.1.length ≤ n := Nat.le_trans (rdG_short _ _ _ _) h
  unfold pSym
  simp only
  split
  · exact h1
  · exact pRej_short _ _ _ h1 hn
theorem pLoop_short {α : Type} (f : List UInt8 → Nat → Rs α) (N : Nat) (hf : ∀ l b, l.length ≤ N → (f l b).2.1.length ≤ N) : ∀ (n : Nat) (acc : List α) (l : List UInt8) (b : Nat), l.length ≤ N → (pLoop f n acc l b).2.1.length ≤ N
  | 0, acc, l, b, h => h
  | n + 1, acc, l, b, h => by
    unfold pLoop
    split
    · exact hf l b h
    · exact pLoop_short f N hf n _ _ _ (hf l b h)
theorem pAll_short {α : Type} (f : List UInt8 → Nat → Rs α) (N : Nat) (hf : ∀ l b, l.length ≤ N → (f l b).2.1.length ≤ N) (most : Int) (l : List UInt8) (b : Nat) (h : l.length ≤ N) : (pAll f most l b).2.1.length ≤ N :=
  pLoop_short f N hf _ _ _ _ (Nat.le_trans (rdG_short _ _ _ _) h)
theorem pVal_short (l : List UInt8) (b n : Nat) (h : l.length ≤ n) (hn : 1 ≤ n) : (pVal l b).2.1.length ≤ n := by
  have h1 : (pByte l b).2.1.length ≤ n := Nat.le_trans (rdG_short _ _ _ _) h
  unfold pVal
  simp only
  split
  · exact h1
  · split
    · exact Nat.le_trans (rdG_short _ _ _ _) h1
    · split
      · exact Nat.le_trans (rdG_short _ _ _ _) h1
      · split
        · exact Nat.le_trans (rdG_short _ _ _ _) h1
        · split
          · exact pSym_short _ _ _ h1 hn
          · split
            · exact pAll_short pNum n (fun l b h => Nat.le_trans (rdG_short _ _ _ _) h) _ _ _ h1
            · exact pRej_short _ _ _ h1 hn
/-- At most so many elements. -/
theorem pSmall_le (most : Int) (hm : 0 ≤ most) (l : List UInt8) (b : Nat) : ((pSmall most l b).1 : Int) ≤ most := by
  unfold pSmall rdG
  split
  · simpa using hm
  · split
    · simpa using hm
    · rename_i h1 h2
      unfold decS at h2 ⊢
      split
      · simpa using hm
      · split
        · simpa using hm
        · simp only; omega
theorem pLoop_len {α : Type} (f : List UInt8 → Nat → Rs α) : ∀ (n : Nat) (acc : List α) (l : List UInt8) (b : Nat), (pLoop f n acc l b).1.length ≤ acc.length + n
  | 0, acc, l, b => by simp [pLoop]
  | n + 1, acc, l, b => by
    unfold pLoop
    split
    · simp
    · have := pLoop_len f n (acc ++ [(f l b).1]) (f l b).2.1 (f l b).2.2
      simp at this ⊢
      omega
theorem pAll_len {α : Type} (f : List UInt8 → Nat → Rs α) (most : Nat) (l : List UInt8) (b : Nat) : (pAll f most l b).1.length ≤ most := by
  have h1 := pLoop_len f (pSmall most l b).1 [] (pSmall most l b).2.1 (pSmall most l b).2.2
  have h2 := pSmall_le most (by omega) l b
  unfold pAll
  simp at h1
  omega

end Go.Proofs.Ytkdhchdhgmaolaa.Cd
