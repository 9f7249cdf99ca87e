/-
  Several texts in one: CdPure, CdRdP.
-/
import Derived.Test.YtkdhchdhgmaolaaZPkText
import Derived.Test.YtkdhchdhgmaolaaZVaPure
import Derived.Test.YtkdhchdhgmaolaaZTzP
namespace Go.Proofs.Ytkdhchdhgmaolaa.Cd
open Go.RowKit
open Pk Va

structure MailP where
  id : Int
  chan : List UInt8
  key : List V
  fields : List V
structure ItemP where
  id : Int
  typ : List UInt8
  state : List UInt8
  since : Int
  attrs : List V
  counts : List Int
  box : List MailP
structure DeadP where
  n : Int
  mail : MailP
  reason : Int
structure EventP where
  n : Int
  tick : Int
  name : List UInt8
  item : Int
  typ : List UInt8
  state : List UInt8
  attrs : List V
structure SubP where
  id : Int
  role : List UInt8
  past : Int

def numB (n : Int) : List UInt8 := enc (zz n)
def cntB (n : Nat) : List UInt8 := enc n
def txtB (t : List UInt8) : List UInt8 := enc t.length ++ t
def byteB (k : Int) : UInt8 := UInt8.ofNat (k % 256).toNat
def numsB : List Int → List UInt8
  | [] => []
  | n :: r => numB n ++ numsB r
/-- What stands behind a value's Kind. -/
def tailB (v : V) : List UInt8 :=
  if v.kind = 1 then numB v.num else if v.kind = 2 then [byteB v.num] else if v.kind = 3 ∨ v.kind = 4 then txtB v.text
  else if v.kind = 5 then cntB v.list.length ++ numsB v.list else []
def valB (v : V) : List UInt8 := byteB v.kind :: tailB v
def valsB : List V → List UInt8
  | [] => []
  | v :: r => valB v ++ valsB r
def rowB (l : List V) : List UInt8 := cntB l.length ++ valsB l
def mailB (m : MailP) : List UInt8 := numB m.id ++ txtB m.chan ++ rowB m.key ++ rowB m.fields
/-- A number as a count: what uint64 makes of it. -/
def cntI (n : Int) : List UInt8 := enc (n % 18446744073709551616).toNat
def cntsB : List Int → List UInt8
  | [] => []
  | n :: r => cntI n ++ cntsB r
def mailsB : List MailP → List UInt8
  | [] => []
  | m :: r => mailB m ++ mailsB r
def itemB (x : ItemP) : List UInt8 := numB x.id ++ numB x.since ++ txtB x.typ ++ txtB x.state ++ rowB x.attrs ++ cntB x.counts.length ++ cntsB x.counts ++ cntB x.box.length ++ mailsB x.box
def deadB (x : DeadP) : List UInt8 := numB x.n ++ mailB x.mail ++ cntI x.reason
def eventB (x : EventP) : List UInt8 := numB x.n ++ numB x.tick ++ numB x.item ++ txtB x.name ++ txtB x.typ ++ txtB x.state ++ rowB x.attrs
def subB (x : SubP) : List UInt8 := numB x.id ++ numB x.past ++ txtB x.role

def nameOk (t : List UInt8) : Bool := decide (t.length ≤ 24)
def rowOk (l : List V) : Bool := decide (l.length ≤ 16) && l.all rightB
def mailOk (m : MailP) : Bool := nameOk m.chan && rowOk m.key && rowOk m.fields
def cntOk (n : Int) : Bool := decide (0 ≤ n ∧ n ≤ 1000)
def itemOk (x : ItemP) : Bool := nameOk x.typ && nameOk x.state && rowOk x.attrs && (decide (x.counts.length ≤ 16) && x.counts.all cntOk) && (decide (x.box.length ≤ 4096) && x.box.all mailOk)
def deadOk (x : DeadP) : Bool := mailOk x.mail && decide (0 ≤ x.reason ∧ x.reason ≤ 5)
def eventOk (x : EventP) : Bool := nameOk x.name && nameOk x.typ && nameOk x.state && rowOk x.attrs
def subOk (x : SubP) : Bool := nameOk x.role

theorem numB_len (n : Int) : (numB n).length ≤ 10 := enc_len _
theorem cntB_len (n : Nat) : (cntB n).length ≤ 10 := enc_len _
theorem cntI_len (n : Int) : (cntI n).length ≤ 10 := enc_len _
theorem txtB_len (t : List UInt8) : (txtB t).length ≤ t.length + 10 := by
  have := enc_len t.length
  unfold txtB
  rw [List.length_append]; omega
theorem numsB_len : ∀ l : List Int, (numsB l).length ≤ 10 * l.length
  | [] => by simp [numsB]
  | n :: r => by
    have h1 := numB_len n
    have h2 := numsB_len r
    unfold numsB
    rw [List.length_append, List.length_cons]; omega
theorem numsB_append : ∀ a b : List Int, numsB (a ++ b) = numsB a ++ numsB b
  | [], _ => rfl
  | n :: r, b => by
    show numB n ++ numsB (r ++ b) = numB n ++ numsB r ++ numsB b
    rw [numsB_append r b, List.append_assoc]
theorem valsB_append : ∀ a b : List V, valsB (a ++ b) = valsB a ++ valsB b
  | [], _ => rfl
  | n :: r, b => by
    show valB n ++ valsB (r ++ b) = valB n ++ valsB r ++ valsB b
    rw [valsB_append r b, List.append_assoc]
theorem cntsB_append : ∀ a b : List Int, cntsB (a ++ b) = cntsB a ++ cntsB b
  | [], _ => rfl
  | n :: r, b => by
    show cntI n ++ cntsB (r ++ b) = cntI n ++ cntsB r ++ cntsB b
    rw [cntsB_append r b, List.append_assoc]
theorem mailsB_append : ∀ a b : List MailP, mailsB (a ++ b) = mailsB a ++ mailsB b
  | [], _ => rfl
  | n :: r, b => by
    show mailB n ++ mailsB (r ++ b) = mailB n ++ mailsB r ++ mailsB b
    rw [mailsB_append r b, List.append_assoc]

/-- What writing something leaves of a writer: its bytes behind the others, or the mark that there is nothing to be had. -/
structure Wrote (e : List UInt8) (ok : Bool) (k : Nat) (l : List UInt8) (bad : Bool) (l' : List UInt8) (bad' : Bool) : Prop where
  good : bad = false → ok = true → bad' = false ∧ l' = l ++ e
  stay : bad = true → bad' = true
  fault : ok = false → bad' = true
  len : l'.length ≤ l.length + k
theorem Wrote.nil (l : List UInt8) (bad : Bool) : Wrote [] true 0 l bad l bad := ⟨fun h _ => ⟨h, by simp⟩, id, (fun h => by cases h), by omega⟩
theorem Wrote.all (e l : List UInt8) (bad : Bool) (k : Nat) (h : e.length ≤ k) : Wrote e true k l bad (l ++ e) bad := ⟨fun h _ => ⟨h, rfl⟩, id, fun h => (by cases h), by simp; omega⟩
theorem Wrote.no (e l : List UInt8) (bad : Bool) (k : Nat) : Wrote e false k l bad l true := ⟨(fun _ h => by cases h), fun _ => rfl, fun _ => rfl, by omega⟩
theorem Wrote.then {e1 e2 l l1 l2 : List UInt8} {o1 o2 b b1 b2 : Bool} {k1 k2 : Nat} (h : Wrote e1 o1 k1 l b l1 b1) (g : Wrote e2 o2 k2 l1 b1 l2 b2) : Wrote (e1 ++ e2) (o1 && o2) (k1 + k2) l b l2 b2 := by
  refine ⟨fun hb ho => ?_, fun hb => g.stay (h.stay hb), fun ho => ?_, by have := h.len; have := g.len; omega⟩
  · simp only [Bool.and_eq_true] at ho
    obtain ⟨x1, x2⟩ := h.good hb ho.1
    obtain ⟨y1, y2⟩ := g.good x1 ho.2
    exact ⟨y1, by rw [y2, x2, List.append_assoc]⟩
  · cases h1 : o1 with
    | false => exact g.stay (h.fault h1)
    | true => rw [h1, Bool.true_and] at ho; exact g.fault ho
theorem Wrote.conv {e e2 l l' : List UInt8} {o o2 b b' : Bool} {k k2 : Nat} (h : Wrote e o k l b l' b') (he : o2 = true → e = e2) (ho : o = o2) (hk : k ≤ k2) : Wrote e2 o2 k2 l b l' b' := by
  subst ho
  exact ⟨fun x y => by obtain ⟨u, v⟩ := h.good x y; exact ⟨u, by rw [v, he y]⟩, h.stay, h.fault, by have := h.len; omega⟩
/-- What a writer that was fresh holds at the end. -/
theorem Wrote.end_ {e l' : List UInt8} {o b' : Bool} {k : Nat} (h : Wrote e o k [] false l' b') : b' = !o ∧ (o = true → l' = e) := by
  cases o with
  | true => obtain ⟨x, y⟩ := h.good rfl rfl; exact ⟨x, fun _ => by simpa using y⟩
  | false => exact ⟨h.fault rfl, fun h => by cases h⟩

end Go.Proofs.Ytkdhchdhgmaolaa.Cd

namespace Go.Proofs.Ytkdhchdhgmaolaa.Cd
open Pk Va

abbrev Rs (α : Type) := α × List UInt8 × Nat
def pByte (l : List UInt8) (b : Nat) : Rs Nat := rdG 0 (decB l) l b
def pNum (l : List UInt8) (b : Nat) : Rs Int := rdG 0 (decN l) l b
def pTruth (l : List UInt8) (b : Nat) : Rs Bool := rdG false (decT l) l b
def pText (most : Int) (l : List UInt8) (b : Nat) : Rs (List UInt8) := rdG [] (decX l most) l b
def pSmall (most : Int) (l : List UInt8) (b : Nat) : Rs Nat := rdG 0 (decS l most) l b
/-- What reject leaves. -/
def pRej (l : List UInt8) (b : Nat) : List UInt8 × Nat := if b ≠ 0 then (l, b) else ([2], 4)
def pSym (l : List UInt8) (b : Nat) : Rs (List UInt8) :=
  let x := pText 24 l b
  if nameB x.1 = true then x else (x.1, pRej x.2.1 x.2.2)
/-- So many more elements, behind those that were read. -/
def pLoop {α : Type} (f : List UInt8 → Nat → Rs α) : Nat → List α → List UInt8 → Nat → Rs (List α)
  | 0, acc, l, b => (acc, l, b)
  | n + 1, acc, l, b => if (f l b).2.2 ≠ 0 then ([], (f l b).2) else pLoop f n (acc ++ [(f l b).1]) (f l b).2.1 (f l b).2.2
def pAll {α : Type} (f : List UInt8 → Nat → Rs α) (most : Int) (l : List UInt8) (b : Nat) : Rs (List α) :=
  pLoop f (pSmall most l b).1 [] (pSmall most l b).2.1 (pSmall most l b).2.2
def pVal (l : List UInt8) (b : Nat) : Rs V :=
  let k := pByte l b
  if k.1 = 0 then (⟨0, 0, [], []⟩, k.2)
  else if k.1 = 1 then let x := pNum k.2.1 k.2.2; (⟨1, x.1, [], []⟩, x.2)
  else if k.1 = 2 then let x := pTruth k.2.1 k.2.2; (⟨2, if x.1 = true then 1 else 0, [], []⟩, x.2)
  else if k.1 = 3 then let x := pText 64 k.2.1 k.2.2; (⟨3, 0, x.1, []⟩, x.2)
  else if k.1 = 4 then let x := pSym k.2.1 k.2.2; (⟨4, 0, x.1, []⟩, x.2)
  else if k.1 = 5 then let x := pAll pNum 16 k.2.1 k.2.2; (⟨5, 0, [], x.1⟩, x.2)
  else (⟨(k.1 : Int), 0, [], []⟩, pRej k.2.1 k.2.2)

/-- What is left is never longer. -/
def Short (n : Nat) (l : List UInt8) : Prop := l.length ≤ n
theorem rdG_short {α : Type} (z : α) (d : α × Nat × Nat) (l : List UInt8) (b : Nat) : (rdG z d l b).2.1.length ≤ l.length := by
  unfold rdG
  split
  · exact Nat.le_refl _
  · split
    · exact Nat.le_refl _
    · simp
theorem pRej_short (l : List UInt8) (b n : Nat) (h : l.length ≤ n) (hn : 1 ≤ n) : (pRej l b).1.length ≤ n := by
  unfold pRej
  split
  · exact h
  · simpa using hn
theorem pSym_short (l : List UInt8) (b n : Nat) (h : l.length ≤ n) (hn : 1 ≤ n) : (pSym l b).2.1.length ≤ n := by
  have h1 : (pText 24 l b).2.1.length ≤ n := Nat.le_trans (rdG_short _ _ _ _) h
  unfold pSym
  simp only
  split
  · exact h1
  · exact pRej_short _ _ _ h1 hn
theorem pLoop_short {α : Type} (f : List UInt8 → Nat → Rs α) (N : Nat) (hf : ∀ l b, l.length ≤ N → (f l b).2.1.length ≤ N) : ∀ (n : Nat) (acc : List α) (l : List UInt8) (b : Nat), l.length ≤ N → (pLoop f n acc l b).2.1.length ≤ N
  | 0, acc, l, b, h => h
  | n + 1, acc, l, b, h => by
    unfold pLoop
    split
    · exact hf l b h
    · exact pLoop_short f N hf n _ _ _ (hf l b h)
theorem pAll_short {α : Type} (f : List UInt8 → Nat → Rs α) (N : Nat) (hf : ∀ l b, l.length ≤ N → (f l b).2.1.length ≤ N) (most : Int) (l : List UInt8) (b : Nat) (h : l.length ≤ N) : (pAll f most l b).2.1.length ≤ N :=
  pLoop_short f N hf _ _ _ _ (Nat.le_trans (rdG_short _ _ _ _) h)
theorem pVal_short (l : List UInt8) (b n : Nat) (h : l.length ≤ n) (hn : 1 ≤ n) : (pVal l b).2.1.length ≤ n := by
  have h1 : (pByte l b).2.1.length ≤ n := Nat.le_trans (rdG_short _ _ _ _) h
  unfold pVal
  simp only
  split
  · exact h1
  · split
    · exact Nat.le_trans (rdG_short _ _ _ _) h1
    · split
      · exact Nat.le_trans (rdG_short _ _ _ _) h1
      · split
        · exact Nat.le_trans (rdG_short _ _ _ _) h1
        · split
          · exact pSym_short _ _ _ h1 hn
          · split
            · exact pAll_short pNum n (fun l b h => Nat.le_trans (rdG_short _ _ _ _) h) _ _ _ h1
            · exact pRej_short _ _ _ h1 hn
/-- At most so many elements. -/
theorem pSmall_le (most : Int) (hm : 0 ≤ most) (l : List UInt8) (b : Nat) : ((pSmall most l b).1 : Int) ≤ most := by
  unfold pSmall rdG
  split
  · simpa using hm
  · split
    · simpa using hm
    · rename_i h1 h2
      unfold decS at h2 ⊢
      split
      · simpa using hm
      · split
        · simpa using hm
        · simp only; omega
theorem pLoop_len {α : Type} (f : List UInt8 → Nat → Rs α) : ∀ (n : Nat) (acc : List α) (l : List UInt8) (b : Nat), (pLoop f n acc l b).1.length ≤ acc.length + n
  | 0, acc, l, b => by simp [pLoop]
  | n + 1, acc, l, b => by
    unfold pLoop
    split
    · simp
    · have := pLoop_len f n (acc ++ [(f l b).1]) (f l b).2.1 (f l b).2.2
      simp at this ⊢
      omega
theorem pAll_len {α : Type} (f : List UInt8 → Nat → Rs α) (most : Nat) (l : List UInt8) (b : Nat) : (pAll f most l b).1.length ≤ most := by
  have h1 := pLoop_len f (pSmall most l b).1 [] (pSmall most l b).2.1 (pSmall most l b).2.2
  have h2 := pSmall_le most (by omega) l b
  unfold pAll
  simp at h1
  omega

end Go.Proofs.Ytkdhchdhgmaolaa.Cd
