/-
  Messages and dead letters as plain data, and where they lie.
-/
import Derived.Test.YtfkmpegbidojoaaVaRows
namespace Go.Proofs.Ytfkmpegbidojoaa.Md
open Go.RowKit
open Va
set_option linter.unusedVariables false

structure MailP where
  id : Int
  chan : List UInt8
  key : List V
  fields : List V
structure DeadP where
  n : Int
  mail : MailP
  reason : Int
structure Num64 (n : Int) : Prop where
  lo : -9223372036854775808 ≤ n
  hi : n ≤ 9223372036854775807
structure VIn64 (v : V) : Prop where
  ok : VOk v
  num : Num64 v.num
  nums : ∀ n ∈ v.list, Num64 n
structure VBig (v : V) : Prop where
  in_ : VIn64 v
  text : v.text.length ≤ 140737488355328
  list : v.list.length ≤ 17592186044416
theorem VBig.ok {v : V} (h : VBig v) : VOk v := h.in_.ok
structure MBig (m : MailP) : Prop where
  id : Num64 m.id
  key : ∀ v ∈ m.key, VBig v
  fields : ∀ v ∈ m.fields, VBig v
  chan : m.chan.length ≤ 140737488355328
  klen : m.key.length ≤ 281474976710656
  flen : m.fields.length ≤ 281474976710656
def MailAt (w : World) (b o : Nat) (m : MailP) (ka : Option Addr) (kc : Nat) (fa : Option Addr) (fc : Nat) : Prop :=
  w.cell? ⟨b, o, none⟩ = some (.int .i64 m.id) ∧ w.cell? ⟨b, o + 1, none⟩ = some (.string (S m.chan)) ∧ w.cell? ⟨b, o + 2, none⟩ = some (.slice ka m.key.length kc) ∧ w.cell? ⟨b, o + 3, none⟩ = some (.slice fa m.fields.length fc) ∧ ValsAt w ka m.key ∧ ValsAt w fa m.fields
def MailsAt (w : World) (a : Option Addr) (ms : List MailP) : Prop := ∀ i, (h : i < ms.length) → ∃ b off ka kc fa fc, a = some ⟨b, off, none⟩ ∧ MailAt w b (off + i * 4) ms[i] ka kc fa fc ∧ b < w.heap.size
theorem MailAt.below {w w' : World} {b o : Nat} {m : MailP} {ka fa : Option Addr} {kc fc : Nat} (h : MailAt w b o m ka kc fa fc) (hl : b < w.heap.size) (k : Below w.heap.size w w') : MailAt w' b o m ka kc fa fc := by
  obtain ⟨h0, h1, h2, h3, h4, h5⟩ := h
  exact ⟨(k.cell (p := ⟨b, o, none⟩) hl).trans h0, (k.cell (p := ⟨b, o + 1, none⟩) hl).trans h1, (k.cell (p := ⟨b, o + 2, none⟩) hl).trans h2, (k.cell (p := ⟨b, o + 3, none⟩) hl).trans h3, h4.below k, h5.below k⟩
theorem MailsAt.below {w w' : World} {a : Option Addr} {ms : List MailP} (h : MailsAt w a ms) (k : Below w.heap.size w w') : MailsAt w' a ms := fun i hi => by
  obtain ⟨b, off, ka, kc, fa, fc, e, hv, hl⟩ := h i hi
  exact ⟨b, off, ka, kc, fa, fc, e, hv.below hl k, Nat.lt_of_lt_of_le hl k.size⟩
/-- A dead letter no piece of which is greater than any machine bears. -/
structure DBig (x : DeadP) : Prop where
  n : Num64 x.n
  reason : Num64 x.reason
  mail : MBig x.mail
def DeadAt (w : World) (b o : Nat) (x : DeadP) (ka : Option Addr) (kc : Nat) (fa : Option Addr) (fc : Nat) : Prop :=
  w.cell? ⟨b, o, none⟩ = some (.int .i64 x.n) ∧ w.cell? ⟨b, o + 1, none⟩ = some (.int .i64 x.mail.id) ∧ w.cell? ⟨b, o + 2, none⟩ = some (.string (S x.mail.chan)) ∧ w.cell? ⟨b, o + 3, none⟩ = some (.slice ka x.mail.key.length kc) ∧ w.cell? ⟨b, o + 4, none⟩ = some (.slice fa x.mail.fields.length fc) ∧ w.cell? ⟨b, o + 5, none⟩ = some (.int .i64 x.reason) ∧ ValsAt w ka x.mail.key ∧ ValsAt w fa x.mail.fields
def DeadsAt (w : World) (a : Option Addr) (l : List DeadP) : Prop := ∀ i, (h : i < l.length) → ∃ b off ka kc fa fc, a = some ⟨b, off, none⟩ ∧ DeadAt w b (off + i * 6) l[i] ka kc fa fc ∧ b < w.heap.size
theorem DeadsAt.below {w w' : World} {a : Option Addr} {l : List DeadP} (h : DeadsAt w a l) (b : Below w.heap.size w w') : DeadsAt w' a l := fun i hi => by
  obtain ⟨g, off, ka, kc, fa, fc, e, ⟨h0, h1, h2, h3, h4, h5, h6, h7⟩, hl⟩ := h i hi
  have k : ∀ j, w'.cell? ⟨g, j, none⟩ = w.cell? ⟨g, j, none⟩ := fun j => b.cell (p := ⟨g, j, none⟩) hl
  exact ⟨g, off, ka, kc, fa, fc, e, ⟨(k _).trans h0, (k _).trans h1, (k _).trans h2, (k _).trans h3, (k _).trans h4, (k _).trans h5, h6.below b, h7.below b⟩, Nat.lt_of_lt_of_le hl b.size⟩
def Good (W0 w : World) : Prop := Below W0.heap.size W0 w
theorem Good.refl (w : World) : Good w w := Below.refl _ _
theorem Good.step {W0 w w' : World} (h : Good W0 w) (b : Below w.heap.size w w') : Good W0 w' := Below.trans h (b.mono h.size)
theorem Good.drew {W0 w : World} (h : Good W0 w) : Good W0 w.drew := ⟨h.os, h.tape, h.output, h.size, h.block⟩
theorem Good.alloc {W0 w : World} (h : Good W0 w) (o : Obj) : Good W0 (w.alloc o) := Below.alloc h h.size o
theorem good_id {W0 w : World} (h : Hid (Good W0 w)) : Good W0 w := h.out
theorem good_drew {W0 w : World} (h : Hid (Good W0 w)) : Good W0 w.drew := h.out.drew
theorem good_calls {P : Program} {f : FuncId} {args : Array Value} {W0 W : World} {R : Ending → Prop} (k : Good W0 W) (h : Calls P f args W fun e w' => R e ∧ Below W.heap.size W w') : Calls P f args W fun e w' => R e ∧ Good W0 w' :=
  h.mono fun e w' g => ⟨g.1, k.step g.2⟩

end Go.Proofs.Ytfkmpegbidojoaa.Md
