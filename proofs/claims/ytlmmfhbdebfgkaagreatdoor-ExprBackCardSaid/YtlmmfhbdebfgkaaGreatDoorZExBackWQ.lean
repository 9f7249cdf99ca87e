/-
  ExBackW, TyPure, TyMem, TyOpen.
-/
import Derived.Test.YtlmmfhbdebfgkaaGreatDoorZExWrJQ
import Derived.Test.YtlmmfhbdebfgkaaGreatDoorZLxToksQ
import Derived.Test.YtlmmfhbdebfgkaaGreatDoorZExRdgQ
import Derived.Test.YtlmmfhbdebfgkaaGreatDoorZExChkQ
import Derived.Test.YtlmmfhbdebfgkaaGreatDoorZExWrHQ
import Derived.Deep.Slices
import Derived.ChangeArms
import Derived.Handed
namespace Go.Proofs.YtlmmfhbdebfgkaaGreatDoor.Ex
open Go.RowKit
open Lx Va
set_option linter.unusedVariables false
set_option linter.unusedSimpArgs false
set_option maxRecDepth 100000 in
set_option maxHeartbeats 4000000 in
theorem back_walk (t : T) (p : Option Addr) (c : Nat) (w : World) (hfa : FAt w (fun _ => True) t.args p) (hfit : t.row.fits) (hnum : t.row.nums) (hL : Laid w) (hC : ConsAt w) :
    Calls Tryz.prog 3 #[.agg #[.int .i64 t.op, .int .i64 t.num, .string (S t.text), .slice p t.args.len c]] w fun e w' => e = .returned (.bool true) ∧ Below w.heap.size w w' := by
  have hb := (Below.refl w.heap.size w).alloc (Nat.le_refl _) (.cells #[.int .i64 t.op, .int .i64 t.num, .string (S t.text), .slice p t.args.len c] 24)
  have HX := Lib.hid (Bx.new w (.int .i64 t.op) (.int .i64 t.num) (.string (S t.text)) (.slice p t.args.len c))
  have HA := Lib.hid (fun W (b : Below w.heap.size w W) => awake8 W (hL.below b) (consB hC b))
  have HPR := Lib.hid (fun W (b : Below w.heap.size w W) => exprPrint_any t hfit hnum p c W (hL.below b).tab (consB hC b) (FAt.mono (fun g hl _ => hl) _ _ (hfa.keep (Kept.of_below b))))
  have HRD := Lib.hid (fun s W (b : Below w.heap.size w W) => pread_any s W (hL.below b) (consB hC b))
  have HFA := Lib.hid hfa
  obtain ⟨tx, er, hp⟩ : ∃ tx er, printM t = (tx, er) := ⟨_, _, rfl⟩
  rw [hp] at HPR
  have hss : (S tx).size = tx.length := S_size tx
  have HB := Lib.hid hb
  have HA0 := Lib.hid (HA.out _ hb)
  by_cases hgo : er = 0 ∧ tx.length ≤ 8000
  · obtain ⟨rfl, hl⟩ := hgo
    obtain ⟨hf, rfl⟩ := print_fine (of_nums _ hnum) hp
    have hrd := hf.back hl
    have hln : ¬ (8000 : Int) < ((S t.tx.text).size : Int) := by omega
    have HSM := Lib.hid (same_any t hf.wf)
    have HRD1 := Lib.hid (fun W (b : Below w.heap.size w W) => by
      have h := HRD.out (S t.tx.text) W b
      rw [show (S t.tx.text).data.toList = t.tx.text by simp [S], hrd] at h
      exact (show Calls _ _ _ _ fun e w' => (∃ p c, e = .returned (.tuple #[.agg #[.int .i64 t.op, .int .i64 t.num, .string (S t.text), .slice p t.args.len c], .int .i64 0, .int .i64 0]) ∧ FAt w' (W.heap.size ≤ ·) t.args p) ∧ Below W.heap.size W w' from h))
    clear hb hfa hfit hnum hL hC hp hss hf hrd hl HRD
    go_enter Tryz.func3, Tryz.ntmps3
    go_wp2_with fail
    refine HA0.out.mono ?_
    rintro e w1 ⟨rfl, b1⟩
    have hb1 := HB.out.trans (b1.mono HB.out.size)
    have hx1 := HX.out.keep (Kept.of_below (ok := fun _ => True) b1) trivial
    have HX1 := Lib.hid hx1
    have HB1 := Lib.hid hb1
    have HP1 := Lib.hid (HPR.out w1 hb1)
    have x0 := hx1.c0
    have x1 := hx1.c1
    have x2 := hx1.c2
    have x3 := hx1.c3
    clear b1 hb1 hx1 HA0 HPR HX HB
    go_wp2_with fail
    refine HP1.out.mono ?_
    rintro e w2 ⟨rfl, b2⟩
    have hb2 := HB1.out.trans (b2.mono HB1.out.size)
    have HX2 := Lib.hid (HX1.out.keep (Kept.of_below (ok := fun _ => True) b2) trivial)
    have HA2 := Lib.hid (HA.out w2 hb2)
    have HB2 := Lib.hid hb2
    clear b2 hb2 HP1 HX1 HB1 x0 x1 x2 x3
    go_wp2_with fail
    refine HA2.out.mono ?_
    rintro e w3 ⟨rfl, b3⟩
    have hb3 := HB2.out.trans (b3.mono HB2.out.size)
    have HX3 := Lib.hid (HX2.out.keep (Kept.of_below (ok := fun _ => True) b3) trivial)
    have HR3 := Lib.hid (HRD1.out w3 hb3)
    have HB3 := Lib.hid hb3
    clear b3 hb3 HA2 HX2 HB2 HRD1
    go_wp2_with fail
    refine HR3.out.mono ?_
    rintro e w4 ⟨⟨q, d, rfl, hfb⟩, b4⟩
    have hb4 := HB3.out.trans (b4.mono HB3.out.size)
    have hx4 := HX3.out.keep (Kept.of_below (ok := fun _ => True) b4) trivial
    have hl4 := hx4.lt
    have hb5 := hb4.alloc hb4.size (.cells #[.int .i64 t.op, .int .i64 t.num, .string (S t.text), .slice q t.args.len d] 24)
    have HSM5 := Lib.hid (HSM.out q p d c (w4.alloc (.cells #[.int .i64 t.op, .int .i64 t.num, .string (S t.text), .slice q t.args.len d] 24)) (FAt.mono (fun _ _ _ => trivial) _ _ (hfb.keep (Kept.alloc w4 _))) (HFA.out.keep (Kept.of_below hb5)))
    have x0 := hx4.c0
    have x1 := hx4.c1
    have x2 := hx4.c2
    have x3 := hx4.c3
    have zx : ∀ o j, (w4.alloc o).cell? ⟨w.heap.size, j, none⟩ = w4.cell? ⟨w.heap.size, j, none⟩ := fun o j => Kept.cell (Kept.alloc (ok := fun _ => True) w4 o) trivial hl4
    have HB5 := Lib.hid hb5
    clear b4 hb4 hx4 hb5 hfb HSM HX3 HB3 HR3
    go_wp2_with fail
    refine HSM5.out.mono ?_
    rintro e w6 ⟨rfl, b6⟩
    have HB6 := Lib.hid (HB5.out.trans (b6.mono HB5.out.size))
    clear b6
    go_wp2_with fail
    go_ret
    exact ⟨rfl, HB6.out⟩
  · have hbad : ((er : Int) != 0) = true ∨ (((er : Int) != 0) = false ∧ (8000 : Int) < ((S tx).size : Int)) := by
      by_cases h : er = 0
      · right; subst h; exact ⟨rfl, by have := fun h2 => hgo ⟨rfl, h2⟩; omega⟩
      · left; simp; omega
    clear hb hfa hfit hnum hL hC hp hss hgo HRD HFA
    rcases hbad with hbad | ⟨hbad, hbig⟩
    all_goals
      go_enter Tryz.func3, Tryz.ntmps3
      go_wp2_with fail
      refine HA0.out.mono ?_
      rintro e w1 ⟨rfl, b1⟩
      have hb1 := HB.out.trans (b1.mono HB.out.size)
      have hx1 := HX.out.keep (Kept.of_below (ok := fun _ => True) b1) trivial
      have HB1 := Lib.hid hb1
      have HP1 := Lib.hid (HPR.out w1 hb1)
      have x0 := hx1.c0
      have x1 := hx1.c1
      have x2 := hx1.c2
      have x3 := hx1.c3
      clear b1 hb1 hx1 HA0 HPR HX HB
      go_wp2_with fail
      refine HP1.out.mono ?_
      rintro e w2 ⟨rfl, b2⟩
      have hb2 := HB1.out.trans (b2.mono HB1.out.size)
      have HA2 := Lib.hid (HA.out w2 hb2)
      have HB2 := Lib.hid hb2
      clear b2 hb2 HP1 HB1 x0 x1 x2 x3
      go_wp2_with fail
      refine HA2.out.mono ?_
      rintro e w3 ⟨rfl, b3⟩
      have hb3 := HB2.out.trans (b3.mono HB2.out.size)
      have HA3 := Lib.hid (HA.out w3 hb3)
      have HB3 := Lib.hid hb3
      clear b3 hb3 HA2 HB2
      go_wp2_with fail
      refine HA3.out.mono ?_
      rintro e w4 ⟨rfl, b4⟩
      have HB4 := Lib.hid (HB3.out.trans (b4.mono HB3.out.size))
      clear b4
      go_wp2_with fail
      go_ret
      exact ⟨rfl, HB4.out⟩
end Go.Proofs.YtlmmfhbdebfgkaaGreatDoor.Ex
namespace Go.Proofs.YtlmmfhbdebfgkaaGreatDoor.Ty
open Ex Lx
structure TT where
  kind : Int
  enum : List UInt8
  lit : List UInt8
def TT.zero : TT := ⟨0, [], []⟩
structure EnumP where
  name : List UInt8
  syms : List (List UInt8)
structure AttrP where
  name : List UInt8
  kind : Int
  enum : List UInt8
structure Sc where
  enums : List EnumP
  attrs : List AttrP
  fields : List AttrP
-- what isn't named
def only (l : List AttrP) (names : List (List UInt8)) : List AttrP := l.filter (fun a => names.any (fun n => n == a.name))
def Sc.only (s : Sc) (na nf : List (List UInt8)) : Sc := ⟨s.enums, Ty.only s.attrs na, Ty.only s.fields nf⟩
-- more is known
def Sc.more (s m : Sc) : Sc := ⟨s.enums ++ m.enums, s.attrs ++ m.attrs, s.fields ++ m.fields⟩
end Go.Proofs.YtlmmfhbdebfgkaaGreatDoor.Ty
namespace Go.Proofs.YtlmmfhbdebfgkaaGreatDoor.Ty
open Go.RowKit
open Ex Lx
instance : Inhabited AttrP := ⟨⟨[], 0, []⟩⟩
instance : Inhabited EnumP := ⟨⟨[], []⟩⟩
instance : Inhabited TT := ⟨TT.zero⟩
def StrsAt (w : World) (p : Option Addr) (l : List (List UInt8)) : Prop :=
  ∀ i, (h : i < l.length) → ∃ b o, p = some ⟨b, o, none⟩ ∧ b < w.heap.size ∧ w.cell? ⟨b, o + i, none⟩ = some (.string (S l[i]))
def AttrsAt (w : World) (p : Option Addr) (l : List AttrP) : Prop :=
  ∀ i, (h : i < l.length) → ∃ b o, p = some ⟨b, o, none⟩ ∧ b < w.heap.size ∧ w.cell? ⟨b, o + i * 3, none⟩ = some (.string (S l[i].name)) ∧ w.cell? ⟨b, o + i * 3 + 1, none⟩ = some (.int .i64 l[i].kind) ∧ w.cell? ⟨b, o + i * 3 + 2, none⟩ = some (.string (S l[i].enum))
def EnumsAt (w : World) (p : Option Addr) (l : List EnumP) : Prop :=
  ∀ i, (h : i < l.length) → ∃ b o q c, p = some ⟨b, o, none⟩ ∧ b < w.heap.size ∧ w.cell? ⟨b, o + i * 2, none⟩ = some (.string (S l[i].name)) ∧ w.cell? ⟨b, o + i * 2 + 1, none⟩ = some (.slice q l[i].syms.length c) ∧ StrsAt w q l[i].syms
def TTsAt (w : World) (p : Option Addr) (l : List TT) : Prop :=
  ∀ i, (h : i < l.length) → ∃ b o, p = some ⟨b, o, none⟩ ∧ b < w.heap.size ∧ w.cell? ⟨b, o + i * 3, none⟩ = some (.int .i64 l[i].kind) ∧ w.cell? ⟨b, o + i * 3 + 1, none⟩ = some (.string (S l[i].enum)) ∧ w.cell? ⟨b, o + i * 3 + 2, none⟩ = some (.string (S l[i].lit))
section
variable {w w' : World} (k : Below w.heap.size w w')
include k
theorem StrsAt.later {p : Option Addr} {l : List (List UInt8)} (h : StrsAt w p l) : StrsAt w' p l := fun i hi => by
  obtain ⟨b, o, e, hb, h0⟩ := h i hi
  exact ⟨b, o, e, Nat.lt_of_lt_of_le hb k.size, (k.cell (p := ⟨b, _, none⟩) hb).trans h0⟩
theorem AttrsAt.later {p : Option Addr} {l : List AttrP} (h : AttrsAt w p l) : AttrsAt w' p l := fun i hi => by
  obtain ⟨b, o, e, hb, h0, h1, h2⟩ := h i hi
  exact ⟨b, o, e, Nat.lt_of_lt_of_le hb k.size, (k.cell (p := ⟨b, _, none⟩) hb).trans h0, (k.cell (p := ⟨b, _, none⟩) hb).trans h1, (k.cell (p := ⟨b, _, none⟩) hb).trans h2⟩
theorem EnumsAt.later {p : Option Addr} {l : List EnumP} (h : EnumsAt w p l) : EnumsAt w' p l := fun i hi => by
  obtain ⟨b, o, q, c, e, hb, h0, h1, h2⟩ := h i hi
  exact ⟨b, o, q, c, e, Nat.lt_of_lt_of_le hb k.size, (k.cell (p := ⟨b, _, none⟩) hb).trans h0, (k.cell (p := ⟨b, _, none⟩) hb).trans h1, h2.later k⟩
theorem TTsAt.later {p : Option Addr} {l : List TT} (h : TTsAt w p l) : TTsAt w' p l := fun i hi => by
  obtain ⟨b, o, e, hb, h0, h1, h2⟩ := h i hi
  exact ⟨b, o, e, Nat.lt_of_lt_of_le hb k.size, (k.cell (p := ⟨b, _, none⟩) hb).trans h0, (k.cell (p := ⟨b, _, none⟩) hb).trans h1, (k.cell (p := ⟨b, _, none⟩) hb).trans h2⟩
end
structure ScAt (w : World) (pe pa pf : Option Addr) (s : Sc) : Prop where
  enums : EnumsAt w pe s.enums
  attrs : AttrsAt w pa s.attrs
  fields : AttrsAt w pf s.fields
theorem ScAt.later {w w' : World} (k : Below w.heap.size w w') {pe pa pf : Option Addr} {s : Sc} (h : ScAt w pe pa pf s) : ScAt w' pe pa pf s := ⟨h.enums.later k, h.attrs.later k, h.fields.later k⟩
structure ScFit (s : Sc) : Prop where
  enums : s.enums.length ≤ 281474976710656
  attrs : s.attrs.length ≤ 281474976710656
  fields : s.fields.length ≤ 281474976710656
  syms : ∀ e ∈ s.enums, e.syms.length ≤ 281474976710656
  ae : ∀ a ∈ s.attrs, a.enum.length ≤ 281474976710656
  fe : ∀ a ∈ s.fields, a.enum.length ≤ 281474976710656
theorem S_beq (a b : List UInt8) : ((S a).toList == (S b).toList) = (a == b) := by rw [ByteArray.toList_eq, ByteArray.toList_eq, S_toList, S_toList]
end Go.Proofs.YtlmmfhbdebfgkaaGreatDoor.Ty
namespace Go.Proofs.YtlmmfhbdebfgkaaGreatDoor.Ty
open Go.RowKit
open Ex Lx
set_option linter.unusedVariables false
section
variable {H : Type} {enc : TypeId × Value → H} {w : World} {base : Nat} {spare : Nat → Bool} {held : Bool}
def Wt (t : TypeId) (d : DataW H) : Prop := ∀ n ∈ d.weights Tryz.prog t, n ≤ 140737488355328
theorem all_mem {e : TypeId} : ∀ {l : List (DataW H)} {d : DataW H}, d ∈ l → ∀ n ∈ d.weights Tryz.prog e, n ∈ DataW.weightsAll Tryz.prog e l
  | x :: r, d, hd, n, hn => by
    simp only [DataW.weightsAll, List.mem_append]
    rcases List.mem_cons.1 hd with rfl | hd
    · exact .inl hn
    · exact .inr (all_mem hd n hn)
theorem each_mem : ∀ {ts : List TypeId} {ds : List (DataW H)} {j : Nat} {t : TypeId} {d : DataW H}, ts[j]? = some t → ds[j]? = some d → ∀ n ∈ d.weights Tryz.prog t, n ∈ DataW.weightsEach Tryz.prog ts ds
  | t0 :: ts, d0 :: ds, 0, t, d, ht, hd, n, hn => by
    simp only [List.getElem?_cons_zero, Option.some.injEq] at ht hd
    subst ht; subst hd
    simp only [DataW.weightsEach, List.mem_append]
    exact Or.inl hn
  | t0 :: ts, d0 :: ds, j + 1, t, d, ht, hd, n, hn => by
    simp only [List.getElem?_cons_succ] at ht hd
    simp only [DataW.weightsEach, List.mem_append]
    exact Or.inr (each_mem ht hd n hn)
  | [], _, _, _, _, ht, _, _, _ => by simp at ht
  | _ :: _, [], _, _, _, _, hd, _, _ => by simp at hd
theorem Wt.field {t : TypeId} {fs : Array Field} {parts : List (DataW H)} (hu : Tryz.prog.underlying t = some (.struct fs)) (h : Wt t (.agg parts)) {j : Nat} {f : Field} {d : DataW H} (hf : fs[j]? = some f) (hd : parts[j]? = some d) : Wt f.type d := fun n hn => by
  refine h n ?_
  simp only [DataW.weights, hu]
  refine each_mem (j := j) ?_ hd n hn
  rw [List.getElem?_map, Array.getElem?_toList, hf]; rfl
theorem Wt.elems {t e : TypeId} {es sp : List (DataW H)} (hu : Tryz.prog.underlying t = some (.slice e)) (h : Wt t (.slice es sp)) : es.length * Tryz.prog.bytesOf e ≤ 140737488355328 ∧ ∀ d ∈ es, Wt e d := by
  constructor
  · have := h ((es.length + sp.length) * Tryz.prog.bytesOf e) (by simp [DataW.weights, hu])
    exact Nat.le_trans (Nat.mul_le_mul_right _ (by omega)) this
  · intro d hd n hn
    refine h n ?_
    simp only [DataW.weights, hu, List.mem_cons, List.mem_append]
    exact .inr (.inl (all_mem hd n hn))
theorem slice_elems {t e : TypeId} {k : Nat} {fuel : Nat} {cs : List Value} {x : DataW H × List MemPlace} (ht : Tryz.prog.underlying t = some (.slice e)) (hk : Tryz.prog.cellsOf e = k) (h : DataW.trod enc Tryz.prog w base spare held fuel t cs = some x) (hW : Wt t x.1) :
    cs = [.slice none 0 0] ∨ ∃ (a : Addr) (len cap n : Nat) (D : Nat → DataW H) (Pl : Nat → List MemPlace), fuel = n + 1 ∧ cs = [.slice (some a) len cap] ∧ len * Tryz.prog.bytesOf e ≤ 140737488355328 ∧
      ∀ i, i < len → ∃ cs', w.cells? base (a.add (i * k)) k = some cs' ∧ DataW.trod enc Tryz.prog w base spare held n e cs' = some (D i, Pl i) ∧ Wt e (D i) := by
  subst hk
  rcases DataW.trod_slice ht h with h0 | ⟨a, len, cap, elems, rest, n, hn, rfl, rfl, hb, hl, hm, hlen, hel, hsp, hns⟩
  · exact .inl h0.1
  right
  obtain ⟨w1, w2⟩ := hW.elems ht
  rw [List.length_map, hlen] at w1
  refine ⟨a, len, cap, n, fun i => (elems.getD i (.nil, [])).1, fun i => (elems.getD i (.nil, [])).2, hn, rfl, w1, fun i hi => ?_⟩
  have key := hel i hi
  rw [List.getElem?_eq_getElem (by omega)] at key
  obtain ⟨cs', h1, h2⟩ := Option.bind_eq_some_iff.1 key
  have hg : elems.getD i (.nil, []) = elems[i]'(by omega) := by simp [List.getD, List.getElem?_eq_getElem (show i < elems.length by omega)]
  refine ⟨cs', h1, ?_, ?_⟩
  · simp only [hg]; rw [h2]
  · simp only [hg]
    exact w2 _ (List.mem_map.2 ⟨_, List.getElem_mem _, rfl⟩)
theorem str_open {n : Nat} {cs : List Value} {x : DataW H × List MemPlace} (h : DataW.trod enc Tryz.prog w base spare held n 9 cs = some x) (hW : Wt 9 x.1) : ∃ s : List UInt8, cs = [.string (S s)] ∧ s.length ≤ 281474976710656 := by
  obtain ⟨s, rfl, rfl, _⟩ := DataW.trod_string Tryz.underlying9 h
  refine ⟨s.data.toList, by rw [S_list], ?_⟩
  have := hW s.data.toList.length (by simp [DataW.weights])
  omega
theorem int_open {n : Nat} {cs : List Value} {x : DataW H × List MemPlace} (h : DataW.trod enc Tryz.prog w base spare held n 3 cs = some x) : ∃ z : Int, cs = [.int .i64 z] := by
  obtain ⟨z, rfl, _⟩ := DataW.trod_int Tryz.underlying3 h
  exact ⟨z, rfl⟩
theorem i64_open {n : Nat} {cs : List Value} {x : DataW H × List MemPlace} (h : DataW.trod enc Tryz.prog w base spare held n 2 cs = some x) : ∃ z : Int, cs = [.int .i64 z] ∧ z ≤ 9223372036854775807 := by
  obtain ⟨z, rfl, _, hw⟩ := DataW.trod_int Tryz.underlying2 h
  refine ⟨z, rfl, ?_⟩
  simp [Lit.wf, IntKind.min, IntKind.max, IntKind.signed, IntKind.bits] at hw
  omega
theorem cells_strT : Tryz.prog.cellsOf 9 = 1 := by kernel_rfl
theorem cells_intT : Tryz.prog.cellsOf 3 = 1 := by kernel_rfl
theorem cells_i64T : Tryz.prog.cellsOf 2 = 1 := by kernel_rfl
theorem cells_exprT : Tryz.prog.cellsOf 24 = 4 := by kernel_rfl
theorem cells_exprsT : Tryz.prog.cellsOf 22 = 1 := by kernel_rfl
theorem bytes_exprT : 1 ≤ Tryz.prog.bytesOf 24 := of_decide_eq_true (by kernel_rfl)
theorem len_of {len b : Nat} (h : len * b ≤ 140737488355328) (hb : 1 ≤ b) : len ≤ 281474976710656 := by
  have : len * 1 ≤ len * b := Nat.mul_le_mul_left _ hb
  omega
theorem cells_at {a : Addr} {k : Nat} {cs : List Value} (h : w.cells? base a k = some cs) : cs.length = k ∧ ∀ j, j < k → w.cell? (a.add j) = cs[j]? := by
  obtain ⟨_, hl, hat⟩ := World.cells?_some h
  refine ⟨hl, fun j hj => ?_⟩
  rw [hat j hj, List.getElem?_eq_getElem (by omega)]
theorem add_add (b off i j : Nat) : ((⟨b, off, none⟩ : Addr).add i).add j = ⟨b, off + i + j, none⟩ := by
  unfold Addr.add
  by_cases hi : i = 0 <;> by_cases hj : j = 0 <;> simp [hi, hj]
theorem choose_list {α : Type} [Inhabited α] {n : Nat} {p : Nat → α → Prop} (h : ∀ i, i < n → ∃ x, p i x) : ∃ l : List α, l.length = n ∧ ∀ i, (hi : i < l.length) → p i l[i] := by
  obtain ⟨F, hF⟩ := Go.Deep.choose_lt h
  exact ⟨(List.range n).map F, by simp, fun i hi => by simp only [List.getElem_map, List.getElem_range]; exact hF i (by simpa using hi)⟩
structure XM where
  t : T
  p : Option Addr
  c : Nat
instance : Inhabited XM := ⟨⟨⟨0, 0, [], .nil⟩, none, 0⟩⟩
def rowM : List XM → F
  | [] => .nil
  | x :: r => .cons x.t.op x.t.num x.t.text x.t.args (rowM r)
theorem rowM_len : ∀ l, (rowM l).len = l.length
  | [] => rfl
  | x :: r => by show (rowM r).len + 1 = r.length + 1; rw [rowM_len r]
theorem rowM_at (b : Nat) : ∀ (l : List XM) (k : Nat), (∀ i, (hi : i < l.length) → w.cell? ⟨b, k + i * 4, none⟩ = some (.int .i64 l[i].t.op) ∧ w.cell? ⟨b, k + i * 4 + 1, none⟩ = some (.int .i64 l[i].t.num) ∧ w.cell? ⟨b, k + i * 4 + 2, none⟩ = some (.string (S l[i].t.text)) ∧ w.cell? ⟨b, k + i * 4 + 3, none⟩ = some (.slice l[i].p l[i].t.args.len l[i].c) ∧ FAt w (fun _ => True) l[i].t.args l[i].p) → FAt w (fun _ => True) (rowM l) (some ⟨b, k, none⟩)
  | [], _, _ => trivial
  | x :: r, k, h => by
    obtain ⟨h0, h1, h2, h3, h4⟩ := h 0 (by simp)
    simp only [Nat.zero_mul, Nat.add_zero, List.getElem_cons_zero] at h0 h1 h2 h3 h4
    refine ⟨b, k, x.p, x.c, rfl, trivial, World.block_lt_of_cell? w _ h0, h0, h1, h2, h3, h4, rowM_at b r (k + 4) fun i hi => ?_⟩
    have := h (i + 1) (by simp; omega)
    rw [show k + (i + 1) * 4 = k + 4 + i * 4 by omega] at this
    simpa using this
theorem rowM_fits : ∀ l : List XM, (∀ x ∈ l, x.t.row.fits ∧ x.t.row.nums) → (rowM l).fits ∧ (rowM l).nums
  | [], _ => ⟨trivial, trivial⟩
  | x :: r, h => by
    obtain ⟨⟨f1, f2, f3, _⟩, n1, n2, _⟩ := h x (by simp)
    obtain ⟨g1, g2⟩ := rowM_fits r (fun y hy => h y (by simp [hy]))
    exact ⟨⟨f1, f2, f3, g1⟩, n1, n2, g2⟩
theorem expr_open : ∀ (n : Nat) (cs : List Value) (x : DataW H × List MemPlace), cs.length = 4 → DataW.trod enc Tryz.prog w base spare held n 24 cs = some x → Wt 24 x.1 →
    ∃ (t : T) (p : Option Addr) (c : Nat), cs = [.int .i64 t.op, .int .i64 t.num, .string (S t.text), .slice p t.args.len c] ∧ (t.row.fits ∧ t.row.nums) ∧ FAt w (fun _ => True) t.args p := by
  intro n
  induction n using Nat.strongRecOn with
  | _ n ih =>
  intro cs x hlen h hW
  match cs, hlen with
  | [c0, c1, c2, c3], _ =>
    obtain ⟨ys, m, hnm, rfl, _, hyl, hf⟩ := DataW.trod_struct Tryz.underlying24 h
    have hyl : ys.length = 4 := hyl
    have f0 := hf 0 _ rfl
    have f1 := hf 1 _ rfl
    have f2 := hf 2 _ rfl
    have f3 := hf 3 _ rfl
    change DataW.trod _ _ _ _ _ _ _ 3 (([c0, c1, c2, c3].drop 0).take (Tryz.prog.cellsOf 3)) = _ at f0
    change DataW.trod _ _ _ _ _ _ _ 2 (([c0, c1, c2, c3].drop 1).take (Tryz.prog.cellsOf 2)) = _ at f1
    change DataW.trod _ _ _ _ _ _ _ 9 (([c0, c1, c2, c3].drop 2).take (Tryz.prog.cellsOf 9)) = _ at f2
    change DataW.trod _ _ _ _ _ _ _ 22 (([c0, c1, c2, c3].drop 3).take (Tryz.prog.cellsOf 22)) = _ at f3
    rw [cells_intT] at f0
    rw [cells_i64T] at f1
    rw [cells_strT] at f2
    rw [cells_exprsT] at f3
    simp only [List.drop_zero, List.drop_succ_cons, List.take_succ_cons, List.take_zero] at f0 f1 f2 f3
    rw [List.getElem?_eq_getElem (by omega)] at f0 f1 f2 f3
    have w2 := hW.field (j := 2) Tryz.underlying24 rfl (by rw [List.getElem?_map, List.getElem?_eq_getElem (by omega)]; rfl)
    have w3 := hW.field (j := 3) Tryz.underlying24 rfl (by rw [List.getElem?_map, List.getElem?_eq_getElem (by omega)]; rfl)
    obtain ⟨z0, e0⟩ := int_open f0
    obtain ⟨z1, e1, hz1⟩ := i64_open f1
    obtain ⟨s2, e2, l2⟩ := str_open f2 w2
    simp only [List.cons.injEq, and_true] at e0 e1 e2
    subst e0 e1 e2
    rcases slice_elems Tryz.underlying22 cells_exprT f3 w3 with hcs | ⟨p, len, cap, m', D, Pl, hm', hcs, hl, hi⟩
    · simp only [List.cons.injEq, and_true] at hcs
      subst hcs
      exact ⟨⟨z0, z1, s2, .nil⟩, none, 0, rfl, ⟨⟨l2, by simp [F.len], trivial, trivial⟩, hz1, trivial, trivial⟩, trivial⟩
    · simp only [List.cons.injEq, and_true] at hcs
      subst hcs
      obtain ⟨l, hll, hp⟩ := choose_list (α := XM) (n := len) (p := fun i x => (w.cell? ((p.add (i * 4)).add 0) = some (.int .i64 x.t.op) ∧ w.cell? ((p.add (i * 4)).add 1) = some (.int .i64 x.t.num) ∧ w.cell? ((p.add (i * 4)).add 2) = some (.string (S x.t.text)) ∧ w.cell? ((p.add (i * 4)).add 3) = some (.slice x.p x.t.args.len x.c) ∧ FAt w (fun _ => True) x.t.args x.p) ∧ x.t.row.fits ∧ x.t.row.nums) (fun i hil => by
        obtain ⟨cs', h1, h2, h3⟩ := hi i hil
        obtain ⟨hcl, hat⟩ := cells_at h1
        obtain ⟨t, q, c, rfl, hfn, hfa⟩ := ih m' (by omega) cs' _ hcl h2 h3
        exact ⟨⟨t, q, c⟩, ⟨hat 0 (by omega), hat 1 (by omega), hat 2 (by omega), hat 3 (by omega), hfa⟩, hfn⟩)
      have hrf := rowM_fits l (fun x hx => by
        obtain ⟨i, hil, rfl⟩ := List.mem_iff_getElem.1 hx
        exact (hp i hil).2)
      have hrl := rowM_len l
      rw [hll] at hrl
      refine ⟨⟨z0, z1, s2, rowM l⟩, some p, cap, by simp only [hrl], ⟨⟨l2, by rw [hrl]; exact len_of hl bytes_exprT, hrf.1, trivial⟩, hz1, hrf.2, trivial⟩, ?_⟩
      by_cases h0 : len = 0
      · have : l = [] := List.eq_nil_of_length_eq_zero (by omega)
        subst this
        trivial
      · obtain ⟨⟨g00, _⟩, _⟩ := hp 0 (by omega)
        obtain ⟨b, off, spot⟩ := p
        have hspot : spot = none := by simpa [Addr.add] using World.cell?_spot g00
        subst hspot
        refine rowM_at b l off fun i hil => ?_
        obtain ⟨⟨g0, g1, g2, g3, g4⟩, _⟩ := hp i hil
        rw [add_add] at g0 g1 g2 g3
        exact ⟨g0, g1, g2, g3, g4⟩
end
end Go.Proofs.YtlmmfhbdebfgkaaGreatDoor.Ty
