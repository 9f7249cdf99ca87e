/-
  A box of messages in memory; New, Len, Room.
-/
import Derived.Test.YtfkmpegbidojoaaMdTwin
import Derived.Test.YtfkmpegbidojoaaMdComm
namespace Go.Proofs.Ytfkmpegbidojoaa.Md
open Go.RowKit
open Va
set_option linter.unusedVariables false
set_option linter.unusedSimpArgs false

/-- Of the blocks that there were, c alone has changed. -/
structure Onl (c : Nat) (w w' : World) : Prop where
  os : w'.os = w.os
  tape : w'.tape = w.tape
  output : w'.output = w.output
  size : w.heap.size ≤ w'.heap.size
  block : ∀ k, k < w.heap.size → k ≠ c → w'.heap[k]? = w.heap[k]?
theorem Onl.of_below {c : Nat} {w w' : World} (h : Below w.heap.size w w') : Onl c w w' := ⟨h.os, h.tape, h.output, h.size, fun k hk _ => h.block k hk⟩
theorem Onl.refl (c : Nat) (w : World) : Onl c w w := Onl.of_below (Below.refl _ _)
theorem Onl.trans {c : Nat} {w w1 w2 : World} (h : Onl c w w1) (k : Onl c w1 w2) : Onl c w w2 :=
  ⟨k.os.trans h.os, k.tape.trans h.tape, k.output.trans h.output, Nat.le_trans h.size k.size, fun b hb hne => (k.block b (Nat.lt_of_lt_of_le hb h.size) hne).trans (h.block b hb hne)⟩
theorem Onl.then {c B : Nat} {w w1 w2 : World} (h : Below B w w1) (k : Onl c w1 w2) (hc : B ≤ c) (hB : B ≤ w1.heap.size) : Below B w w2 :=
  ⟨k.os.trans h.os, k.tape.trans h.tape, k.output.trans h.output, Nat.le_trans h.size k.size, fun b hb => (k.block b (by omega) (by omega)).trans (h.block b hb)⟩
theorem Onl.chan (w : World) (c cap : Nat) (buf : Array Value) (cl : Bool) (s r : Nat) (tm : Bool) : Onl c w (w.setChan c cap buf cl s r tm) :=
  ⟨rfl, rfl, rfl, by simp [World.setChan], fun k hk hne => by simp only [World.setChan]; rw [Array.getElem?_setIfInBounds_ne (by omega)]⟩

/-- How many may be in a box. -/
def capN (most : Int) : Nat := (min (max most 0) 4096).toNat
/-- The messages of a channel's row. -/
def MsgsIn (lo : Nat) (w : World) (buf : Array Value) (l : List MailP) : Prop :=
  buf.size = l.length ∧ ∀ (i : Nat) (m : MailP), l[i]? = some m → ∃ ka kc fa fc, buf[i]? = some (mV m ka kc fa fc) ∧ TwR lo w ka m.key ∧ TwR lo w fa m.fields
structure BoxAt (lo : Nat) (w : World) (b c cap : Nat) (l : List MailP) : Prop where
  box : w.heap[b]? = some (.cells #[.chan (some c)] 68 (0, 0))
  chan : ∃ buf s r, w.heap[c]? = some (.chan cap buf false s r false) ∧ MsgsIn lo w buf l
  room : l.length ≤ cap
  cap_le : cap ≤ 4096
  gb : lo ≤ b
  gc : lo ≤ c
theorem MsgsIn.nil (lo : Nat) (w : World) : MsgsIn lo w #[] [] := ⟨rfl, fun i m h => by simp at h⟩
theorem not_chan {w : World} {c cap : Nat} {buf : Array Value} {cl : Bool} {s r : Nat} {tm : Bool} (h : w.heap[c]? = some (.chan cap buf cl s r tm)) (t : TypeId) : ¬ Blk w c t := fun hb => by
  obtain ⟨cs, e⟩ := hb
  rw [h] at e
  injection e with e
  cases e
theorem MsgsIn.agree {lo : Nat} {w w' : World} {buf : Array Value} {l : List MailP} (h : MsgsIn lo w buf l) (ag : ∀ b t, (t = 64 ∨ t = 2) → lo ≤ b → Blk w b t → w'.heap[b]? = w.heap[b]?) : MsgsIn lo w' buf l :=
  ⟨h.1, fun i m hi => by obtain ⟨ka, kc, fa, fc, e, h1, h2⟩ := h.2 i m hi; exact ⟨ka, kc, fa, fc, e, h1.agree ag, h2.agree ag⟩⟩
theorem BoxAt.agree {lo b c cap : Nat} {w w' : World} {l : List MailP} (h : BoxAt lo w b c cap l) (ag : ∀ k, k < w.heap.size → w'.heap[k]? = w.heap[k]?) : BoxAt lo w' b c cap l := by
  obtain ⟨buf, s, r, hc, hm⟩ := h.chan
  exact ⟨(ag _ (lt_of_heapV h.box)).trans h.box, ⟨buf, s, r, (ag _ (lt_of_heapV hc)).trans hc, hm.agree fun k t _ _ hb => ag k hb.lt⟩, h.room, h.cap_le, h.gb, h.gc⟩
theorem BoxAt.below {lo b c cap : Nat} {w w' : World} {l : List MailP} (h : BoxAt lo w b c cap l) (k : Below w.heap.size w w') : BoxAt lo w' b c cap l := h.agree k.block
theorem BoxAt.lt {lo b c cap : Nat} {w : World} {l : List MailP} (h : BoxAt lo w b c cap l) : b < w.heap.size ∧ c < w.heap.size := by
  obtain ⟨buf, s, r, hc, hm⟩ := h.chan
  exact ⟨lt_of_heapV h.box, lt_of_heapV hc⟩
theorem BoxAt.c0 {lo b c cap : Nat} {w : World} {l : List MailP} (h : BoxAt lo w b c cap l) : w.cell? ⟨b, 0, none⟩ = some (.chan (some c)) := cell_of_row w b 0 _ _ (0, 0) h.box

theorem mkchan (w : World) (n : Nat) (hn : n ≤ 4096) : (Instr.makeChan 66 (.int .i64 (n : Int))).run Try.prog w = .ok (.chan (some w.heap.size)) (w.alloc (.chan n #[] false 0 0 false)) := by
  have h : (Try.prog.info? 30).map (·.bytes) = some 72 := by kernel_rfl
  obtain ⟨i, hi, hb⟩ := Option.map_eq_some_iff.1 h
  exact Conc.run_makeChan (P := Try.prog) (w := w) Try.underlying66 hi .i64 n (by omega) (by rw [hb]; omega)

set_option maxRecDepth 100000 in
theorem new_any (most : Int) (hm : Num64 most) (w : World) :
    Calls Try.prog 7 #[.int .i64 most] w fun e w' => (e = .returned (.pointer (some ⟨w.heap.size + 1, 0, none⟩)) ∧ BoxAt w.heap.size w' (w.heap.size + 1) w.heap.size (capN most) []) ∧ Below w.heap.size w w' := by
  have hc : capN most ≤ 4096 := by unfold capN; omega
  have hx : ((capN most : Nat) : Int) = min (max most 0) 4096 := by unfold capN; omega
  have HMK := fun W => mkchan W (capN most) hc
  have HB : BoxAt w.heap.size ((w.alloc (.chan (capN most) #[] false 0 0 false)).alloc (.cells #[.chan (some w.heap.size)] 68)) (w.heap.size + 1) w.heap.size (capN most) [] := by
    refine ⟨?_, ⟨#[], 0, 0, ?_, MsgsIn.nil _ _⟩, Nat.zero_le _, hc, by omega, Nat.le_refl _⟩
    · have := heap_alloc_new (w.alloc (.chan (capN most) #[] false 0 0 false)) (.cells #[.chan (some w.heap.size)] 68)
      rwa [show (w.alloc (.chan (capN most) #[] false 0 0 false)).heap.size = w.heap.size + 1 by simp] at this
    · exact ((Below.refl _ _).alloc (Nat.le_refl _) _).block w.heap.size (by simp) |>.trans (heap_alloc_new w _)
  have HBB := Lib.hid HB
  have HX := Lib.hid hx
  have HBL : Hid (Below w.heap.size w ((w.alloc (.chan (capN most) #[] false 0 0 false)).alloc (.cells #[.chan (some w.heap.size)] 68))) := Lib.hid (((Below.refl w.heap.size w).alloc (Nat.le_refl _) _).alloc (by simp) _)
  clear HB hc
  rw [hx] at HMK
  clear hx hm
  go_enter Try.func7, Try.ntmps7
  go_wp2_with fail
  go_ret
  exact ⟨⟨rfl, HBB.out⟩, HBL.out⟩

end Go.Proofs.Ytfkmpegbidojoaa.Md
