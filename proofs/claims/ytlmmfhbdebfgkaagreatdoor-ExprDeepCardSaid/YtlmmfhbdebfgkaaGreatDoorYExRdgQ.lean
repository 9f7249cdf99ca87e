/-
  ExRdg, ExRefA, ExRefOp, ExRes, ExRefU, ExRefV, ExRefL, ExRefC, ExRefP.
-/
import Derived.Test.YtlmmfhbdebfgkaaGreatDoorYExPureQ
import Derived.Lib.Hide
import Derived.Deep.QuietTactic
import Derived.BigQuiet
import Derived.Lib.SmallJoins
import Derived.Deep.RegionLaw
import Derived.Deep.DeepCutAuto
namespace Go.Proofs.YtlmmfhbdebfgkaaGreatDoor.Ex
open Go.RowKit
open Lx
structure TsAt (w : World) (g : Nat) (ts : List TA) : Prop where
  lt : g < w.heap.size
  cells : ∀ i t, ts[i]? = some t → w.cell? ⟨g, i * 4, none⟩ = some (.int .i64 t.kind) ∧ w.cell? ⟨g, i * 4 + 1, none⟩ = some (.string (S t.text)) ∧ w.cell? ⟨g, i * 4 + 2, none⟩ = some (.int .i64 t.num) ∧ w.cell? ⟨g, i * 4 + 3, none⟩ = some (.int .i64 (t.at_ : Int))
theorem TsAt.keep {w w' : World} {g : Nat} {ts : List TA} {ok : Nat → Prop} (h : TsAt w g ts) (k : Kept ok w w') (hg : ok g) : TsAt w' g ts :=
  ⟨Nat.lt_of_lt_of_le h.lt k.size, fun i t hi => by
    obtain ⟨h0, h1, h2, h3⟩ := h.cells i t hi
    exact ⟨(k.cell hg h.lt).trans h0, (k.cell hg h.lt).trans h1, (k.cell hg h.lt).trans h2, (k.cell hg h.lt).trans h3⟩⟩
theorem TsAt.below {w w' : World} {g : Nat} {ts : List TA} (h : TsAt w g ts) (b : Below w.heap.size w w') : TsAt w' g ts := h.keep (Kept.of_below (ok := fun _ => True) b) trivial
theorem TsAt.tok {w : World} {g : Nat} {ts : List TA} (h : TsAt w g ts) {a : Nat} (ha : a < ts.length) :
    w.cell? ⟨g, a * 4, none⟩ = some (.int .i64 (tk ts a).kind) ∧ w.cell? ⟨g, a * 4 + 1, none⟩ = some (.string (S (tk ts a).text)) ∧ w.cell? ⟨g, a * 4 + 2, none⟩ = some (.int .i64 (tk ts a).num) ∧ w.cell? ⟨g, a * 4 + 3, none⟩ = some (.int .i64 ((tk ts a).at_ : Int)) := by
  have e : tk ts a = ts[a] := by simp [tk, List.getD_eq_getElem?_getD, ha]
  rw [e]
  exact h.cells a _ (List.getElem?_eq_getElem ha)
def Rdg (w : World) (b g cap len : Nat) (a n o bad fault : Int) : Prop :=
  w.heap[b]? = some (.cells #[.slice (some ⟨g, 0, none⟩) len cap, .int .i64 a, .int .i64 n, .int .i64 o, .int .i64 bad, .int .i64 fault] 149 (0, 0))
section
variable {w w' : World} {b g cap len : Nat} {a n o bad fault : Int}
theorem Rdg.c0 (h : Rdg w b g cap len a n o bad fault) : w.cell? ⟨b, 0, none⟩ = some (.slice (some ⟨g, 0, none⟩) len cap) := cell_of_row w b 0 _ _ (0, 0) h
theorem Rdg.c1 (h : Rdg w b g cap len a n o bad fault) : w.cell? ⟨b, 1, none⟩ = some (.int .i64 a) := cell_of_row w b 1 _ _ (0, 0) h
theorem Rdg.c2 (h : Rdg w b g cap len a n o bad fault) : w.cell? ⟨b, 2, none⟩ = some (.int .i64 n) := cell_of_row w b 2 _ _ (0, 0) h
theorem Rdg.c3 (h : Rdg w b g cap len a n o bad fault) : w.cell? ⟨b, 3, none⟩ = some (.int .i64 o) := cell_of_row w b 3 _ _ (0, 0) h
theorem Rdg.c4 (h : Rdg w b g cap len a n o bad fault) : w.cell? ⟨b, 4, none⟩ = some (.int .i64 bad) := cell_of_row w b 4 _ _ (0, 0) h
theorem Rdg.c5 (h : Rdg w b g cap len a n o bad fault) : w.cell? ⟨b, 5, none⟩ = some (.int .i64 fault) := cell_of_row w b 5 _ _ (0, 0) h
theorem Rdg.fz (h : Rdg w b g cap len a n o bad fault) (j : Nat) : w.frozen? ⟨b, j, none⟩ = false := frozen_of_row w b j _ _ h
theorem Rdg.lt (h : Rdg w b g cap len a n o bad fault) : b < w.heap.size := World.block_lt_of_cell? w _ h.c0
theorem Rdg.set1 (h : Rdg w b g cap len a n o bad fault) (v : Int) : Rdg (w.setCell ⟨b, 1, none⟩ (.int .i64 v)) b g cap len v n o bad fault := heap_setCell_same w b 1 _ _ _ h
theorem Rdg.set2 (h : Rdg w b g cap len a n o bad fault) (v : Int) : Rdg (w.setCell ⟨b, 2, none⟩ (.int .i64 v)) b g cap len a v o bad fault := heap_setCell_same w b 2 _ _ _ h
theorem Rdg.set3 (h : Rdg w b g cap len a n o bad fault) (v : Int) : Rdg (w.setCell ⟨b, 3, none⟩ (.int .i64 v)) b g cap len a n v bad fault := heap_setCell_same w b 3 _ _ _ h
theorem Rdg.keep {ok : Nat → Prop} (h : Rdg w b g cap len a n o bad fault) (k : Kept ok w w') (hb : ok b) : Rdg w' b g cap len a n o bad fault := (k.block b hb h.lt).trans h
theorem Rdg.below (h : Rdg w b g cap len a n o bad fault) (k : Below w.heap.size w w') : Rdg w' b g cap len a n o bad fault := (k.block b h.lt).trans h
end
def Only (b : Nat) (w w' : World) : Prop := w.grownBy w' (some b)
theorem Only.refl (b : Nat) (w : World) : Only b w w := ⟨rfl, rfl, rfl, Nat.le_refl _, fun _ _ _ => rfl⟩
theorem Only.of_below {b : Nat} {w w' : World} (h : Below w.heap.size w w') : Only b w w' := ⟨h.os, h.tape, h.output, h.size, fun k hk _ => h.block k hk⟩
theorem Only.trans {b : Nat} {x y z : World} (h : Only b x y) (k : Only b y z) : Only b x z :=
  ⟨k.os.trans h.os, k.tape.trans h.tape, k.output.trans h.output, Nat.le_trans h.size k.size, fun i hi hn => (k.block i (Nat.lt_of_lt_of_le hi h.size) hn).trans (h.block i hi hn)⟩
theorem Only.set (b : Nat) (w : World) (j : Nat) (v : Value) : Only b w (w.setCell ⟨b, j, none⟩ v) :=
  ⟨rfl, rfl, rfl, by simp, fun k _ hk => heap_setCell_other w ⟨b, j, none⟩ k v (fun e => hk (by simp [e]))⟩
theorem Only.set' {b : Nat} {w w' : World} (h : Only b w w') (j : Nat) (v : Value) : Only b w (w'.setCell ⟨b, j, none⟩ v) := h.trans (Only.set b w' j v)
theorem Only.kept {b : Nat} {w w' : World} (h : Only b w w') : Kept (· ≠ b) w w' := ⟨h.size, fun g hg hl => h.block g hl (by simpa using hg)⟩
theorem Only.below {B b : Nat} {x w w' : World} (h : Below B x w) (k : Only b w w') (hB : B ≤ w.heap.size) (hb : B ≤ b) : Below B x w' :=
  h.grown k hB (fun i hi => by simp at hi; omega)
theorem Only.ts {b g : Nat} {w w' : World} {ts : List TA} (h : Only b w w') (t : TsAt w g ts) (hne : g ≠ b) : TsAt w' g ts := t.keep h.kept hne
end Go.Proofs.YtlmmfhbdebfgkaaGreatDoor.Ex
namespace Go.Proofs.YtlmmfhbdebfgkaaGreatDoor.Ex
open Go.RowKit
open Lx
def noX : Value := .agg #[.int .i64 0, .int .i64 0, .string ⟨#[]⟩, .slice none 0 0]
theorem new_box (W : World) (cs : Array Value) (t : TypeId) (k : Nat) (h : W.heap.size = k) : (W.alloc (.cells cs t)).heap[k]? = some (.cells cs t (0, 0)) := by
  subst h; exact heap_alloc_new W _
theorem res_expr {fn : Func} {p : Tmp} (h : fn.results = #[.cell p 24]) (tmps : Array Value) (w : World) (g : Nat) (a b c d : Value)
    (hp : tmps.getD p undef = .pointer (some ⟨g, 0, none⟩)) (hg : w.heap[g]? = some (.cells #[a, b, c, d] 24 (0, 0))) : (results fn tmps).run Tryz.prog w = .ok (.agg #[a, b, c, d]) w :=
  results_cell_row h tmps w g _ _ _ _ hp hg Tryz.underlying24 rfl (by kernel_rfl)
end Go.Proofs.YtlmmfhbdebfgkaaGreatDoor.Ex
namespace Go.Proofs.YtlmmfhbdebfgkaaGreatDoor.Ex
open Go.RowKit
open Lx
theorem eqB (x y : List UInt8) : ((S x).toList == y) = (x == y) := by rw [ByteArray.toList_eq, S_toList]
end Go.Proofs.YtlmmfhbdebfgkaaGreatDoor.Ex
namespace Go.Proofs.YtlmmfhbdebfgkaaGreatDoor.Ex
open Go.RowKit
open Lx
def Bx (w : World) (H : Nat) (a b c d : Value) : Prop := w.heap[H]? = some (.cells #[a, b, c, d] 24 (0, 0))
section
variable {w w' : World} {H : Nat} {a b c d : Value}
theorem Bx.c0 (h : Bx w H a b c d) : w.cell? ⟨H, 0, none⟩ = some a := cell_of_row w H 0 _ _ (0, 0) h
theorem Bx.c1 (h : Bx w H a b c d) : w.cell? ⟨H, 1, none⟩ = some b := cell_of_row w H 1 _ _ (0, 0) h
theorem Bx.c2 (h : Bx w H a b c d) : w.cell? ⟨H, 2, none⟩ = some c := cell_of_row w H 2 _ _ (0, 0) h
theorem Bx.c3 (h : Bx w H a b c d) : w.cell? ⟨H, 3, none⟩ = some d := cell_of_row w H 3 _ _ (0, 0) h
theorem Bx.fz (h : Bx w H a b c d) (j : Nat) : w.frozen? ⟨H, j, none⟩ = false := frozen_of_row w H j _ _ h
theorem Bx.lt (h : Bx w H a b c d) : H < w.heap.size := World.block_lt_of_cell? w _ h.c0
theorem Bx.keep {ok : Nat → Prop} (h : Bx w H a b c d) (k : Kept ok w w') (hH : ok H) : Bx w' H a b c d := (k.block H hH h.lt).trans h
theorem Bx.set3 (h : Bx w H a b c d) (d' : Value) : Bx (w.setCell ⟨H, 3, none⟩ d') H a b c d' := heap_setCell_same w H 3 _ _ _ h
end
def put4 (w : World) (H : Nat) (a b c d : Value) : World := (((w.setCell ⟨H, 0, none⟩ a).setCell ⟨H, 1, none⟩ b).setCell ⟨H, 2, none⟩ c).setCell ⟨H, 3, none⟩ d
theorem set_size (w : World) (p : Addr) (v : Value) : (w.setCell p v).heap.size = w.heap.size := by simp
theorem put4_size (w : World) (H : Nat) (a b c d : Value) : (put4 w H a b c d).heap.size = w.heap.size := by simp [put4]
theorem Bx.put {w : World} {H : Nat} {a b c d : Value} (h : Bx w H a b c d) (a' b' c' d' : Value) : Bx (put4 w H a' b' c' d') H a' b' c' d' :=
  heap_setCell_same _ H 3 _ _ _ (heap_setCell_same _ H 2 _ _ _ (heap_setCell_same _ H 1 _ _ _ (heap_setCell_same w H 0 _ _ _ h)))
theorem Kept.set {ok : Nat → Prop} (w : World) (H j : Nat) (v : Value) (h : ¬ ok H) : Kept ok w (w.setCell ⟨H, j, none⟩ v) :=
  ⟨by simp, fun g hg _ => heap_setCell_other w ⟨H, j, none⟩ g v (fun e => h (by simp at e; rw [← e]; exact hg))⟩
theorem Kept.put {ok : Nat → Prop} (w : World) (H : Nat) (a b c d : Value) (h : ¬ ok H) : Kept ok w (put4 w H a b c d) :=
  (((Kept.set w H 0 a h).trans (Kept.set _ H 1 b h)).trans (Kept.set _ H 2 c h)).trans (Kept.set _ H 3 d h)
theorem Only.box {b : Nat} {w w' : World} (h : Only b w w') (H j : Nat) (hH : w.heap.size ≤ H) (v : Value) : Only b w (w'.setCell ⟨H, j, none⟩ v) :=
  ⟨h.os, h.tape, h.output, by simp; exact h.size, fun i hi hn => (heap_setCell_other w' ⟨H, j, none⟩ i v (fun e => by simp at e; omega)).trans (h.block i hi hn)⟩
theorem Only.put {b : Nat} {w w' : World} (h : Only b w w') (H : Nat) (hH : w.heap.size ≤ H) (x y z u : Value) : Only b w (put4 w' H x y z u) :=
  (((h.box H 0 hH x).box H 1 hH y).box H 2 hH z).box H 3 hH u
theorem Only.alloc {b : Nat} {w w' : World} (h : Only b w w') (o : Obj) : Only b w (w'.alloc o) := h.trans (Only.of_below ((Below.refl _ _).alloc (Nat.le_refl _) o))
theorem Bx.new (W : World) (a b c d : Value) : Bx (W.alloc (.cells #[a, b, c, d] 24)) W.heap.size a b c d := heap_alloc_new W _
theorem Kept.alloc {ok : Nat → Prop} (W : World) (o : Obj) : Kept ok W (W.alloc o) := Kept.of_below ((Below.refl _ _).alloc (Nat.le_refl _) o)
theorem Only.keptB {b : Nat} {w w' : World} (h : Only b w w') {ok : Nat → Prop} (hb : ¬ ok b) : Kept ok w w' := h.kept.mono fun _ hg e => hb (e ▸ hg)
def Post (b g cap : Nat) (ts : List TA) (lo : Nat) (r : R) (o n : Int) (t : List UInt8) (q : Option Addr) (k : Nat) (w' : World) : Prop := match r with
  | .ok x s => x.op = o ∧ x.num = n ∧ x.text = t ∧ x.args.len = k ∧ FAt w' (lo ≤ ·) x.args q ∧ Rdg w' b g cap ts.length s.at_ s.n s.open_ 0 0
  | .bad er a => er ≠ 0 ∧ ∃ a' n' o', Rdg w' b g cap ts.length a' n' o' (er : Int) (a : Int)
theorem Post.keep {b g cap : Nat} {ts : List TA} {lo : Nat} {r : R} {o n : Int} {t : List UInt8} {q : Option Addr} {k : Nat} {w w' : World} (h : Post b g cap ts lo r o n t q k w) (kp : Kept (fun g => g = b ∨ lo ≤ g) w w') : Post b g cap ts lo r o n t q k w' := by
  cases r with
  | ok x s => exact ⟨h.1, h.2.1, h.2.2.1, h.2.2.2.1, h.2.2.2.2.1.keep (kp.mono fun g hg => .inr hg), h.2.2.2.2.2.keep kp (.inl rfl)⟩
  | bad e a =>
    obtain ⟨he, a', n', o', hr⟩ := h
    exact ⟨he, a', n', o', hr.keep kp (.inl rfl)⟩
theorem Post.low {b g cap : Nat} {ts : List TA} {lo lo' : Nat} {r : R} {o n : Int} {t : List UInt8} {q : Option Addr} {k : Nat} {w : World} (h : Post b g cap ts lo r o n t q k w) (hl : lo' ≤ lo) : Post b g cap ts lo' r o n t q k w := by
  cases r with
  | ok x s => exact ⟨h.1, h.2.1, h.2.2.1, h.2.2.2.1, FAt.mono (fun g _ hg => Nat.le_trans hl hg) _ _ h.2.2.2.2.1, h.2.2.2.2.2⟩
  | bad e a => exact h
end Go.Proofs.YtlmmfhbdebfgkaaGreatDoor.Ex
namespace Go.Proofs.YtlmmfhbdebfgkaaGreatDoor.Ex
open Go.RowKit
open Lx
theorem unAt_is {ts : List TA} {a : Nat} : unAt (tk ts a) = if isS ts a [33] = true then some 10 else if isS ts a [45] = true then some 11 else none := by
  unfold unAt isS
  generalize tk ts a = t
  obtain ⟨k, x, m, q⟩ := t
  by_cases hk : k = 5
  · subst hk; simp
  · simp [hk]
end Go.Proofs.YtlmmfhbdebfgkaaGreatDoor.Ex
namespace Go.Proofs.YtlmmfhbdebfgkaaGreatDoor.Ex
open Go.RowKit
open Lx
def unW (w5 : World) (b H : Nat) (v op : Int) (o n : Int) (t : List UInt8) (q : Option Addr) (k c : Nat) : World :=
  ((put4 (w5.setCell ⟨b, 3, none⟩ (.int .i64 v)) H (.int .i64 op) (.int .i64 0) (.string ⟨#[]⟩) (.slice (some ⟨w5.heap.size + 1, 0, none⟩) 1 1)).alloc (.cells #[.int .i64 o, .int .i64 n, .string (S t), .slice q k c] 24)).alloc (.cells #[.int .i64 o, .int .i64 n, .string (S t), .slice q k c] 24)
section
variable {b g cap : Nat} {ts : List TA} {w w5 : World} {v op o n : Int} {t : List UInt8} {q : Option Addr} {k c : Nat} {x0 x1 x2 x3 : Value}
theorem unW_kept {ok : Nat → Prop} (hb : ¬ ok b) (hH : ¬ ok w.heap.size) : Kept ok w5 (unW w5 b w.heap.size v op o n t q k c) :=
  (((Kept.set w5 b 3 _ hb).trans (Kept.put _ w.heap.size _ _ _ _ hH)).trans (Kept.alloc _ _)).trans (Kept.alloc _ _)
theorem unW_only (hO : Only b w w5) : Only b w (unW w5 b w.heap.size v op o n t q k c) :=
  ((hO.set' 3 _).put w.heap.size (Nat.le_refl _) _ _ _ _).alloc _ |>.alloc _
theorem unW_bx (hx : Bx w5 w.heap.size x0 x1 x2 x3) (hlt : b < w.heap.size) : Bx (unW w5 b w.heap.size v op o n t q k c) w.heap.size (.int .i64 op) (.int .i64 0) (.string ⟨#[]⟩) (.slice (some ⟨w5.heap.size + 1, 0, none⟩) 1 1) :=
  ((((hx.keep (Kept.set (ok := (· ≠ b)) w5 b 3 (.int .i64 v) (by simp)) (show w.heap.size ≠ b by omega)).put _ _ _ _).keep (Kept.alloc (ok := fun _ => True) _ _) trivial)).keep (Kept.alloc (ok := fun _ => True) _ _) trivial
theorem unW_new : Bx (unW w5 b w.heap.size v op o n t q k c) (w5.heap.size + 1) (.int .i64 o) (.int .i64 n) (.string (S t)) (.slice q k c) := by
  have h := Bx.new ((put4 (w5.setCell ⟨b, 3, none⟩ (.int .i64 v)) w.heap.size (.int .i64 op) (.int .i64 0) (.string ⟨#[]⟩) (.slice (some ⟨w5.heap.size + 1, 0, none⟩) 1 1)).alloc (.cells #[.int .i64 o, .int .i64 n, .string (S t), .slice q k c] 24)) (.int .i64 o) (.int .i64 n) (.string (S t)) (.slice q k c)
  have e : ((put4 (w5.setCell ⟨b, 3, none⟩ (.int .i64 v)) w.heap.size (.int .i64 op) (.int .i64 0) (.string ⟨#[]⟩) (.slice (some ⟨w5.heap.size + 1, 0, none⟩) 1 1)).alloc (.cells #[.int .i64 o, .int .i64 n, .string (S t), .slice q k c] 24)).heap.size = w5.heap.size + 1 := by
    simp [put4]
  rw [e] at h
  exact h
theorem FAt.one {W : World} {ok : Nat → Prop} {x : T} {N : Nat} (hb : Bx W N (.int .i64 x.op) (.int .i64 x.num) (.string (S x.text)) (.slice q x.args.len c)) (hN : ok N) (hf : FAt W ok x.args q) : FAt W ok x.row (some ⟨N, 0, none⟩) :=
  ⟨N, 0, q, c, rfl, hN, hb.lt, hb.c0, hb.c1, hb.c2, hb.c3, hf, trivial⟩
end
end Go.Proofs.YtlmmfhbdebfgkaaGreatDoor.Ex
namespace Go.Proofs.YtlmmfhbdebfgkaaGreatDoor.Ex
open Go.RowKit
open Lx
def two8 (o n : Int) (t : List UInt8) (q : Option Addr) (k c : Nat) (o' n' : Int) (t' : List UInt8) (q' : Option Addr) (k' c' : Nat) : Obj :=
  .cells #[.int .i64 o, .int .i64 n, .string (S t), .slice q k c, .int .i64 o', .int .i64 n', .string (S t'), .slice q' k' c'] 24
theorem FAt.two {W : World} {ok : Nat → Prop} {x y : T} {N : Nat} {q q' : Option Addr} {c c' : Nat} (hb : W.heap[N]? = some (two8 x.op x.num x.text q x.args.len c y.op y.num y.text q' y.args.len c')) (hN : ok N) (hf : FAt W ok x.args q) (hf' : FAt W ok y.args q') :
    FAt W ok (two x y) (some ⟨N, 0, none⟩) := by
  have hl := (Array.getElem?_eq_some_iff.1 hb).1
  have hc := fun j => cell_of_row W N j _ _ (0, 0) hb
  exact ⟨N, 0, q, c, rfl, hN, hl, hc 0, hc 1, hc 2, hc 3, hf, N, 4, q', c', rfl, hN, hl, hc 4, hc 5, hc 6, hc 7, hf', trivial⟩
def lvW (w5 : World) (X : Nat) (op : Int) (B : Obj) (o8 : Obj) : World :=
  ((put4 w5 X (.int .i64 op) (.int .i64 0) (.string ⟨#[]⟩) (.slice (some ⟨w5.heap.size + 1, 0, none⟩) 2 2)).alloc B).alloc o8
section
variable {b g cap : Nat} {ts : List TA} {w w5 : World} {op : Int} {B o8 : Obj} {X : Nat} {x0 x1 x2 x3 : Value}
theorem lvW_kept {ok : Nat → Prop} (hX : ¬ ok X) : Kept ok w5 (lvW w5 X op B o8) := ((Kept.put w5 X _ _ _ _ hX).trans (Kept.alloc _ _)).trans (Kept.alloc _ _)
theorem lvW_only (hO : Only b w w5) (hX : w.heap.size ≤ X) : Only b w (lvW w5 X op B o8) := ((hO.put X hX _ _ _ _).alloc _).alloc _
theorem lvW_bx (hx : Bx w5 X x0 x1 x2 x3) : Bx (lvW w5 X op B o8) X (.int .i64 op) (.int .i64 0) (.string (S [])) (.slice (some ⟨w5.heap.size + 1, 0, none⟩) 2 2) :=
  ((hx.put _ _ _ _).keep (Kept.alloc (ok := fun _ => True) _ _) trivial).keep (Kept.alloc (ok := fun _ => True) _ _) trivial
theorem lvW_new : (lvW w5 X op B o8).heap[w5.heap.size + 1]? = some o8 := by
  have h := heap_alloc_new ((put4 w5 X (.int .i64 op) (.int .i64 0) (.string ⟨#[]⟩) (.slice (some ⟨w5.heap.size + 1, 0, none⟩) 2 2)).alloc B) o8
  have e : ((put4 w5 X (.int .i64 op) (.int .i64 0) (.string ⟨#[]⟩) (.slice (some ⟨w5.heap.size + 1, 0, none⟩) 2 2)).alloc B).heap.size = w5.heap.size + 1 := by simp [put4]
  rw [e] at h
  exact h
end
def lvW2 (w5 : World) (X H : Nat) (op : Int) (B : Obj) (o8 : Obj) : World :=
  ((put4 (put4 w5 X (.int .i64 op) (.int .i64 0) (.string ⟨#[]⟩) (.slice (some ⟨w5.heap.size + 1, 0, none⟩) 2 2)) H (.int .i64 op) (.int .i64 0) (.string ⟨#[]⟩) (.slice (some ⟨w5.heap.size + 1, 0, none⟩) 2 2)).alloc B).alloc o8
section
variable {b g cap : Nat} {ts : List TA} {w w5 : World} {op : Int} {B o8 : Obj} {X H : Nat} {x0 x1 x2 x3 : Value}
theorem lvW2_kept {ok : Nat → Prop} (hX : ¬ ok X) (hH : ¬ ok H) : Kept ok w5 (lvW2 w5 X H op B o8) := (((Kept.put w5 X _ _ _ _ hX).trans (Kept.put _ H _ _ _ _ hH)).trans (Kept.alloc _ _)).trans (Kept.alloc _ _)
theorem lvW2_only (hO : Only b w w5) (hX : w.heap.size ≤ X) (hH : w.heap.size ≤ H) : Only b w (lvW2 w5 X H op B o8) := (((hO.put X hX _ _ _ _).put H hH _ _ _ _).alloc _).alloc _
theorem lvW2_bx (hx : Bx w5 H x0 x1 x2 x3) (hne : H ≠ X) : Bx (lvW2 w5 X H op B o8) H (.int .i64 op) (.int .i64 0) (.string (S [])) (.slice (some ⟨w5.heap.size + 1, 0, none⟩) 2 2) :=
  (((hx.keep (Kept.put (ok := (· ≠ X)) w5 X _ _ _ _ (by simp)) hne).put _ _ _ _).keep (Kept.alloc (ok := fun _ => True) _ _) trivial).keep (Kept.alloc (ok := fun _ => True) _ _) trivial
theorem lvW2_new : (lvW2 w5 X H op B o8).heap[w5.heap.size + 1]? = some o8 := by
  have h := heap_alloc_new ((put4 (put4 w5 X (.int .i64 op) (.int .i64 0) (.string ⟨#[]⟩) (.slice (some ⟨w5.heap.size + 1, 0, none⟩) 2 2)) H (.int .i64 op) (.int .i64 0) (.string ⟨#[]⟩) (.slice (some ⟨w5.heap.size + 1, 0, none⟩) 2 2)).alloc B) o8
  have e : ((put4 (put4 w5 X (.int .i64 op) (.int .i64 0) (.string ⟨#[]⟩) (.slice (some ⟨w5.heap.size + 1, 0, none⟩) 2 2)) H (.int .i64 op) (.int .i64 0) (.string ⟨#[]⟩) (.slice (some ⟨w5.heap.size + 1, 0, none⟩) 2 2)).alloc B).heap.size = w5.heap.size + 1 := by simp [put4]
  rw [e] at h
  exact h
end
def opT (op : Int) (turned : Bool) (x y : T) : T := ⟨op, 0, [], if turned = true then Ex.two y x else Ex.two x y⟩
end Go.Proofs.YtlmmfhbdebfgkaaGreatDoor.Ex
namespace Go.Proofs.YtlmmfhbdebfgkaaGreatDoor.Ex
open Go.RowKit
open Lx
theorem Kept.low {B : Nat} {w w' : World} (k : Below B w w') (hs : w.heap.size ≤ w'.heap.size) : Kept (· < B) w w' := ⟨hs, fun g hg _ => k.block g hg⟩
structure ApR (b B : Nat) (w5 : World) (v : Value) (k : Nat) (o m : Int) (t : List UInt8) (q : Option Addr) (kk c : Nat) (p : Option Addr) (c' : Nat) (w6 : World) : Prop where
  run : (Builtin.append_ #[22, 22] 22 #[v, .slice (some ⟨w5.heap.size, 0, none⟩) 1 1]).run Tryz.prog (w5.alloc (.cells #[.int .i64 o, .int .i64 m, .string (S t), .slice q kk c] 24)) = .ok (.slice p (k + 1) c') w6
  below : Below B w5 w6
  size : w5.heap.size < w6.heap.size
end Go.Proofs.YtlmmfhbdebfgkaaGreatDoor.Ex
namespace Go.Proofs.YtlmmfhbdebfgkaaGreatDoor.Ex
open Go.RowKit
open Lx
def Bt (w : World) (H : Nat) (t : TA) : Prop := w.heap[H]? = some (.cells #[.int .i64 t.kind, .string (S t.text), .int .i64 t.num, .int .i64 (t.at_ : Int)] 79 (0, 0))
section
variable {w w' : World} {H : Nat} {t : TA}
theorem Bt.c0 (h : Bt w H t) : w.cell? ⟨H, 0, none⟩ = some (.int .i64 t.kind) := cell_of_row w H 0 _ _ (0, 0) h
theorem Bt.c1 (h : Bt w H t) : w.cell? ⟨H, 1, none⟩ = some (.string (S t.text)) := cell_of_row w H 1 _ _ (0, 0) h
theorem Bt.c2 (h : Bt w H t) : w.cell? ⟨H, 2, none⟩ = some (.int .i64 t.num) := cell_of_row w H 2 _ _ (0, 0) h
theorem Bt.lt (h : Bt w H t) : H < w.heap.size := World.block_lt_of_cell? w _ h.c0
theorem Bt.keep {ok : Nat → Prop} (h : Bt w H t) (k : Kept ok w w') (hH : ok H) : Bt w' H t := (k.block H hH h.lt).trans h
end
structure PrS (b g cap : Nat) (ts : List TA) (s : St) (w W : World) : Prop where
  only : Only b w W
  size : W.heap.size = w.heap.size + 2
  box : Bx W w.heap.size (.int .i64 0) (.int .i64 0) (.string ⟨#[]⟩) (.slice none 0 0)
  tok : Bt W (w.heap.size + 1) (tk ts s.at_)
  rdg : Rdg W b g cap ts.length s.at_ s.n s.open_ 0 0
set_option linter.unusedVariables false
end Go.Proofs.YtlmmfhbdebfgkaaGreatDoor.Ex
