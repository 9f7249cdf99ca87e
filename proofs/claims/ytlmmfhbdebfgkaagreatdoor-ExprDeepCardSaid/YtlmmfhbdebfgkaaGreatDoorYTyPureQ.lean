/-
  TyPure, TyMem, TyOpen, LxLaidB, TyLaidB, ExLaid.
-/
import Derived.Test.YtlmmfhbdebfgkaaGreatDoorYLxToksQ
import Derived.Test.YtlmmfhbdebfgkaaGreatDoorYExRdgQ
import Derived.Test.YtlmmfhbdebfgkaaGreatDoorYExChkQ
import Derived.Test.YtlmmfhbdebfgkaaGreatDoorYExWrHQ
import Derived.Test.YtlmmfhbdebfgkaaGreatDoorRows
import Derived.Test.YtlmmfhbdebfgkaaGreatDoorYLxFirstQ
import Derived.Test.YtlmmfhbdebfgkaaGreatDoorYExConsQ
import Derived.Test.YtlmmfhbdebfgkaaGreatDoorYVlPrintQ
import Derived.Deep.Slices
import Derived.ChangeArms
import Derived.Handed
import Derived.Lib.LaidTab
import Derived.MakeChecks
import Derived.Stop.LaidErr
import Derived.Shelf.Vars
import Derived.SizedLaws
import Derived.LaidLaws
namespace Go.Proofs.YtlmmfhbdebfgkaaGreatDoor.Ty
open Ex Lx
structure TT where
  kind : Int
  enum : List UInt8
  lit : List UInt8
def TT.zero : TT := ⟨0, [], []⟩
structure EnumP where
  name : List UInt8
  syms : List (List UInt8)
structure AttrP where
  name : List UInt8
  kind : Int
  enum : List UInt8
structure Sc where
  enums : List EnumP
  attrs : List AttrP
  fields : List AttrP
-- what isn't named
def only (l : List AttrP) (names : List (List UInt8)) : List AttrP := l.filter (fun a => names.any (fun n => n == a.name))
def Sc.only (s : Sc) (na nf : List (List UInt8)) : Sc := ⟨s.enums, Ty.only s.attrs na, Ty.only s.fields nf⟩
-- more is known
def Sc.more (s m : Sc) : Sc := ⟨s.enums ++ m.enums, s.attrs ++ m.attrs, s.fields ++ m.fields⟩
end Go.Proofs.YtlmmfhbdebfgkaaGreatDoor.Ty
namespace Go.Proofs.YtlmmfhbdebfgkaaGreatDoor.Ty
open Go.RowKit
open Ex Lx
instance : Inhabited AttrP := ⟨⟨[], 0, []⟩⟩
instance : Inhabited EnumP := ⟨⟨[], []⟩⟩
instance : Inhabited TT := ⟨TT.zero⟩
def StrsAt (w : World) (p : Option Addr) (l : List (List UInt8)) : Prop :=
  ∀ i, (h : i < l.length) → ∃ b o, p = some ⟨b, o, none⟩ ∧ b < w.heap.size ∧ w.cell? ⟨b, o + i, none⟩ = some (.string (S l[i]))
def AttrsAt (w : World) (p : Option Addr) (l : List AttrP) : Prop :=
  ∀ i, (h : i < l.length) → ∃ b o, p = some ⟨b, o, none⟩ ∧ b < w.heap.size ∧ w.cell? ⟨b, o + i * 3, none⟩ = some (.string (S l[i].name)) ∧ w.cell? ⟨b, o + i * 3 + 1, none⟩ = some (.int .i64 l[i].kind) ∧ w.cell? ⟨b, o + i * 3 + 2, none⟩ = some (.string (S l[i].enum))
def EnumsAt (w : World) (p : Option Addr) (l : List EnumP) : Prop :=
  ∀ i, (h : i < l.length) → ∃ b o q c, p = some ⟨b, o, none⟩ ∧ b < w.heap.size ∧ w.cell? ⟨b, o + i * 2, none⟩ = some (.string (S l[i].name)) ∧ w.cell? ⟨b, o + i * 2 + 1, none⟩ = some (.slice q l[i].syms.length c) ∧ StrsAt w q l[i].syms
def TTsAt (w : World) (p : Option Addr) (l : List TT) : Prop :=
  ∀ i, (h : i < l.length) → ∃ b o, p = some ⟨b, o, none⟩ ∧ b < w.heap.size ∧ w.cell? ⟨b, o + i * 3, none⟩ = some (.int .i64 l[i].kind) ∧ w.cell? ⟨b, o + i * 3 + 1, none⟩ = some (.string (S l[i].enum)) ∧ w.cell? ⟨b, o + i * 3 + 2, none⟩ = some (.string (S l[i].lit))
section
variable {w w' : World} (k : Below w.heap.size w w')
include k
theorem StrsAt.later {p : Option Addr} {l : List (List UInt8)} (h : StrsAt w p l) : StrsAt w' p l := fun i hi => by
  obtain ⟨b, o, e, hb, h0⟩ := h i hi
  exact ⟨b, o, e, Nat.lt_of_lt_of_le hb k.size, (k.cell (p := ⟨b, _, none⟩) hb).trans h0⟩
theorem AttrsAt.later {p : Option Addr} {l : List AttrP} (h : AttrsAt w p l) : AttrsAt w' p l := fun i hi => by
  obtain ⟨b, o, e, hb, h0, h1, h2⟩ := h i hi
  exact ⟨b, o, e, Nat.lt_of_lt_of_le hb k.size, (k.cell (p := ⟨b, _, none⟩) hb).trans h0, (k.cell (p := ⟨b, _, none⟩) hb).trans h1, (k.cell (p := ⟨b, _, none⟩) hb).trans h2⟩
theorem EnumsAt.later {p : Option Addr} {l : List EnumP} (h : EnumsAt w p l) : EnumsAt w' p l := fun i hi => by
  obtain ⟨b, o, q, c, e, hb, h0, h1, h2⟩ := h i hi
  exact ⟨b, o, q, c, e, Nat.lt_of_lt_of_le hb k.size, (k.cell (p := ⟨b, _, none⟩) hb).trans h0, (k.cell (p := ⟨b, _, none⟩) hb).trans h1, h2.later k⟩
theorem TTsAt.later {p : Option Addr} {l : List TT} (h : TTsAt w p l) : TTsAt w' p l := fun i hi => by
  obtain ⟨b, o, e, hb, h0, h1, h2⟩ := h i hi
  exact ⟨b, o, e, Nat.lt_of_lt_of_le hb k.size, (k.cell (p := ⟨b, _, none⟩) hb).trans h0, (k.cell (p := ⟨b, _, none⟩) hb).trans h1, (k.cell (p := ⟨b, _, none⟩) hb).trans h2⟩
end
structure ScAt (w : World) (pe pa pf : Option Addr) (s : Sc) : Prop where
  enums : EnumsAt w pe s.enums
  attrs : AttrsAt w pa s.attrs
  fields : AttrsAt w pf s.fields
theorem ScAt.later {w w' : World} (k : Below w.heap.size w w') {pe pa pf : Option Addr} {s : Sc} (h : ScAt w pe pa pf s) : ScAt w' pe pa pf s := ⟨h.enums.later k, h.attrs.later k, h.fields.later k⟩
structure ScFit (s : Sc) : Prop where
  enums : s.enums.length ≤ 281474976710656
  attrs : s.attrs.length ≤ 281474976710656
  fields : s.fields.length ≤ 281474976710656
  syms : ∀ e ∈ s.enums, e.syms.length ≤ 281474976710656
  ae : ∀ a ∈ s.attrs, a.enum.length ≤ 281474976710656
  fe : ∀ a ∈ s.fields, a.enum.length ≤ 281474976710656
theorem S_beq (a b : List UInt8) : ((S a).toList == (S b).toList) = (a == b) := by rw [ByteArray.toList_eq, ByteArray.toList_eq, S_toList, S_toList]
end Go.Proofs.YtlmmfhbdebfgkaaGreatDoor.Ty
namespace Go.Proofs.YtlmmfhbdebfgkaaGreatDoor.Ty
open Go.RowKit
open Ex Lx
set_option linter.unusedVariables false
section
variable {H : Type} {enc : TypeId × Value → H} {w : World} {base : Nat} {spare : Nat → Bool} {held : Bool}
def Wt (t : TypeId) (d : DataW H) : Prop := ∀ n ∈ d.weights Tryz.prog t, n ≤ 140737488355328
theorem each_mem : ∀ {ts : List TypeId} {ds : List (DataW H)} {j : Nat} {t : TypeId} {d : DataW H}, ts[j]? = some t → ds[j]? = some d → ∀ n ∈ d.weights Tryz.prog t, n ∈ DataW.weightsEach Tryz.prog ts ds
  | t0 :: ts, d0 :: ds, 0, t, d, ht, hd, n, hn => by
    simp only [List.getElem?_cons_zero, Option.some.injEq] at ht hd
    subst ht; subst hd
    simp only [DataW.weightsEach, List.mem_append]
    exact Or.inl hn
  | t0 :: ts, d0 :: ds, j + 1, t, d, ht, hd, n, hn => by
    simp only [List.getElem?_cons_succ] at ht hd
    simp only [DataW.weightsEach, List.mem_append]
    exact Or.inr (each_mem ht hd n hn)
  | [], _, _, _, _, ht, _, _, _ => by simp at ht
  | _ :: _, [], _, _, _, _, hd, _, _ => by simp at hd
theorem Wt.field {t : TypeId} {fs : Array Field} {parts : List (DataW H)} (hu : Tryz.prog.underlying t = some (.struct fs)) (h : Wt t (.agg parts)) {j : Nat} {f : Field} {d : DataW H} (hf : fs[j]? = some f) (hd : parts[j]? = some d) : Wt f.type d := fun n hn => by
  refine h n ?_
  simp only [DataW.weights, hu]
  refine each_mem (j := j) ?_ hd n hn
  rw [List.getElem?_map, Array.getElem?_toList, hf]; rfl
structure XM where
  t : T
  p : Option Addr
  c : Nat
instance : Inhabited XM := ⟨⟨⟨0, 0, [], .nil⟩, none, 0⟩⟩
end
end Go.Proofs.YtlmmfhbdebfgkaaGreatDoor.Ty
namespace Go.Proofs.YtlmmfhbdebfgkaaGreatDoor
open Go.RowKit
theorem lx_tail {P : Program} {W : World} {x : String × DataW Unit} {r : List (String × DataW Unit)} (h : laidMet P (x :: r) W) : laidMet P r W := by
  obtain ⟨ps, ⟨g, t, cs, fuel, p, q, _, _, _, _, hL, rfl⟩, hnd, hc⟩ := h
  exact ⟨q, hL, (List.nodup_append.1 hnd).2.1, fun b off hm => hc b off (List.mem_append.2 (.inr hm))⟩
theorem lx_tab_data : (Rows.laid_internal_strconv_uint64pow10 : DataW Unit) = Lib.tabData .u64 Lib.pow10Tab := by kernel_rfl
theorem lx_tab {W : World} {r : List (String × DataW Unit)} (h : laidMet Tryz.prog (("internal/strconv.uint64pow10", Rows.laid_internal_strconv_uint64pow10) :: r) W) : Va.Tab W := by
  rw [lx_tab_data] at h
  exact Lib.tabIs_of_head (g := 3) (t := 251) (e := 204) (n := 20) (by kernel_rfl) (by kernel_rfl) (by kernel_rfl) (by kernel_rfl) (by kernel_rfl) (by kernel_rfl) h
theorem lx_star : "*" ++ "errors.errorString" = "*errors.errorString" := by decide
theorem lx_row (u : TypeId) (h : Tryz.prog.typeName? 3 u = some "*errors.errorString") : u = 268 :=
  typeName_ptr_named (nm := "errors.errorString") (by rw [lx_star]; kernel_rfl) (by kernel_rfl) (by decide) u (by rw [lx_star]; exact h)
theorem lx_err {W : World} {r : List (String × DataW Unit)} {n : String} {text : List UInt8} {g : Nat} (hg : Tryz.prog.globalNamed n = some g) (ht : (Tryz.prog.globals[g]?).map (·.type) = some 101)
    (h : laidMet Tryz.prog ((n, .iface "*errors.errorString" (.ptr (.agg [.lit (.string text)]))) :: r) W) : Lx.ErrAt W g := by
  obtain ⟨a, s, hv, _⟩ := laid_sentinel (tp := 268) (te := 270) (ts := 9) h hg ht Tryz.underlying101 lx_row Tryz.underlying268 Tryz.underlying270 rfl rfl Tryz.underlying9 (by kernel_rfl) (by kernel_rfl)
  have h0 := World.var?_cell hg hv 0
  simp only [List.getElem?_toArray, List.getElem?_cons_zero] at h0
  exact ⟨_, h0, .inr ⟨_, _, rfl⟩, World.block_lt_of_cell? W _ h0⟩
theorem cells_of_strs {H : Type} {enc : TypeId × Value → H} {P : Program} {w : World} {base : Nat} {sp : Nat → Bool} {held : Bool} {fuel : Nat} {t e : TypeId} {n : Nat} {cs : List Value} {zs : List (List UInt8)} {p : List MemPlace}
    (ht : P.underlying t = some (.array n e)) (he : P.underlying e = some .string) (hce : P.cellsOf e = 1) (hct : P.cellsOf t = n)
    (h : DataW.trod enc P w base sp held fuel t cs = some (.agg (zs.map fun z => .lit (.string z)), p)) : cs = zs.map fun z => Value.string (S z) := by
  cases fuel with
  | zero => simp [DataW.trod] at h
  | succ fuel =>
    simp only [DataW.trod, ht, hce, hct, Nat.mul_one] at h
    split at h
    · rename_i hl
      obtain ⟨xs, hm, hx⟩ := Option.map_eq_some_iff.1 h
      have hxs : xs.map (·.1) = zs.map fun z => (DataW.lit (.string z) : DataW H) := by
        have := congrArg Prod.fst hx
        simpa using this
      have hxl : xs.length = n := by simpa using Lib.mapM_length hm
      have hzl : zs.length = n := by
        have := congrArg List.length hxs
        simp at this
        omega
      apply List.ext_getElem?
      intro i
      by_cases hi : i < n
      · obtain ⟨b, hb, hf⟩ := Lib.mapM_at hm i i (by simp [hi])
        obtain ⟨z, hc, rfl, _⟩ := DataW.trod_string he hf
        have h1 : cs[i]? = some (.string z) := by
          have := congrArg (·[0]?) hc
          simpa [List.getElem?_take, List.getElem?_drop] using this
        have h2 : (xs.map (·.1))[i]? = some (DataW.lit (.string z.data.toList) : DataW H) := by simp [hb]
        rw [hxs] at h2
        simp only [List.getElem?_map, Option.map_eq_some_iff, DataW.lit.injEq, Lit.string.injEq] at h2
        obtain ⟨z', hz', rfl⟩ := h2
        simp [h1, hz', S_list]
      · rw [List.getElem?_eq_none (by omega), List.getElem?_eq_none (by simp; omega)]
    · cases h
theorem lx_signs_data : (Rows.laid_switchyard_lex_signs : DataW Unit) = .agg (Lx.signs.map fun z => .lit (.string z)) := by kernel_rfl
theorem lx_signs {W : World} {r : List (String × DataW Unit)} (h : laidMet Tryz.prog (("switchyard/lex.signs", Rows.laid_switchyard_lex_signs) :: r) W) : Lx.SignsAt W := by
  rw [lx_signs_data] at h
  obtain ⟨ps, ⟨g', t', cs, fuel, p, q, hg', ht', hvar, hd, _, _⟩, _⟩ := h
  have hgn : Tryz.prog.globalNamed "switchyard/lex.signs" = some 1 := by kernel_rfl
  have htn : (Tryz.prog.globals[1]?).map (·.type) = some 186 := by kernel_rfl
  obtain rfl := Option.some.inj (hgn.symm.trans hg')
  obtain rfl := Option.some.inj (htn.symm.trans ht')
  have hcs := cells_of_strs (n := 27) (by kernel_rfl) Tryz.underlying9 (by kernel_rfl) (by kernel_rfl) hd
  have hcell : ∀ j v, Lx.signsC[j]? = some v → W.cell? ⟨1, j, none⟩ = some v := fun j v hv => by
    have h0 := World.var?_cell hgn hvar j
    rw [h0, ← Array.getElem?_toList]
    have e : cs.toList = Lx.signsC := hcs
    rw [e]
    exact hv
  refine ⟨fun j v hv => by rw [Nat.zero_add]; exact hcell j v hv, World.block_lt_of_cell? W _ (hcell 0 _ (Lx.signs_get 0 (by decide)))⟩
theorem lx_max {W : World} (h : W.ShapedOpen Tryz.prog) : Lx.IntVar W 2 := by
  obtain ⟨m, hm⟩ := cell_of_shapedOpen_int (g := 2) (t := 3) (zero := #[.int .i64 0]) (k := .i64) h (by decide +kernel) (by kernel_rfl) rfl (by kernel_rfl) (by kernel_rfl) Tryz.underlying3
  exact ⟨m, hm, World.block_lt_of_cell? W _ hm⟩
theorem returns_and_shaped {H : Type} {enc : TypeId × Value → H} {a : Assume} {C : Checked} {os : Os} {f : FuncId} {fn : Func} {s : ChangeSpec} {conds : List PathCond} {apart fresh handsOn again : Bool} {X : World → Array Value → Prop}
    (hX : ∀ (w w' : World) (args : Array Value), w.heap = w'.heap → X w args → X w' args)
    (own : ownKnob C.prog.godebug = none) (started : os.Started) (noInit : C.prog.inits.idxOf? f = none) (hfn : C.prog.funcs[f]? = some fn)
    (witness : ∃ (w : World) (tape : Tape) (i : Input), w.os = os ∧ (w.forCall tape i).Shaped C.prog ∧ i.vars = [] ∧ Input.okWide C.prog (w.forCall tape i) .any w.heap.size f i ∧
      ((s.pre enc C.prog fn conds apart (w.forCall tape i).memory i.args ∧ X (w.forCall tape i).memory i.args) ∧ sizedMet enc C.prog fn (OpenSpec.ofChange s) apart (w.forCall tape i).memory i.args) ∧ a.holds C.prog (lone (Frame.enter C.prog f i.args .normal) [] (w.forCall tape i)))
    (contract : ∀ (W : World) (base : Nat) (args : Array Value) (ds gs : List (DataW H)) (before : List MemPlace),
      (∀ (j : Nat) t v, fn.params[j]? = some t → args[j]? = some v → Value.okWide C.prog W .any base t v) →
      DataW.Whole enc C.prog fn.params.toList s.vars apart W args.toList ds gs before →
      conds.all (PathCond.test C.prog ⟨fn.params.toList, ds, s.plain.varTypes C.prog, gs⟩) = true →
      (DataW.weightsEach C.prog (fn.params.toList ++ s.plain.varTypes C.prog) (ds ++ gs)).all (· ≤ reachBytes) = true → X W args → W.ShapedOpen C.prog →
      Calls C.prog f args W fun e W' => ∃ v, e = .returned v ∧ s.post enc C.prog fn apart fresh handsOn again W args v W') :
    ReturnsInHanded a C os f .any (fun w args => (s.pre enc C.prog fn conds apart w args ∧ X w args) ∧ sizedMet enc C.prog fn (OpenSpec.ofChange s) apart w args) (s.post enc C.prog fn apart fresh handsOn again) := by
  refine returnsInHanded_of_calls own started noInit witness ?_
  intro w tape i _ hsh _ hok hpre hholds
  obtain ⟨_, _, _, fn', hfn', _, _, _, _, hval⟩ := hok
  have e : fn' = fn := Option.some.inj (hfn'.symm.trans hfn)
  subst e
  obtain ⟨⟨⟨ds, gs, before, hw, hc⟩, hx⟩, hz⟩ := hpre
  have hw' := DataW.Whole.of_heap (w' := w.forCall tape i) (by rfl) hw
  refine (contract (w.forCall tape i) w.heap.size i.args ds gs before hval hw' hc (hz.weights hw) (hX _ _ _ (by rfl) hx) hsh).mono fun e W' ⟨v, he, hp⟩ => ?_
  subst he
  exact ChangeSpec.post_blind hp
theorem lx_laid {W : World} {x y z : String × DataW Unit} {r : List (String × DataW Unit)} (h : laidMet Tryz.prog (x :: y :: ("internal/strconv.uint64pow10", Rows.laid_internal_strconv_uint64pow10) :: z :: ("strconv.ErrRange", Rows.laid_strconv_ErrRange) :: ("strconv.ErrSyntax", Rows.laid_strconv_ErrSyntax) :: ("switchyard/lex.signs", Rows.laid_switchyard_lex_signs) :: r) W)
    (hs : W.ShapedOpen Tryz.prog) : Lx.Laid W :=
  ⟨lx_err (by kernel_rfl) (by kernel_rfl) (lx_tail (lx_tail (lx_tail (lx_tail h)))), lx_err (by kernel_rfl) (by kernel_rfl) (lx_tail (lx_tail (lx_tail (lx_tail (lx_tail h))))), lx_tab (lx_tail (lx_tail h)), lx_signs (lx_tail (lx_tail (lx_tail (lx_tail (lx_tail (lx_tail h)))))), lx_max hs⟩
end Go.Proofs.YtlmmfhbdebfgkaaGreatDoor
namespace Go.Proofs.YtlmmfhbdebfgkaaGreatDoor
open Go.RowKit
theorem ty_tail {P : Program} {W : World} {x : String × DataW Unit} {r : List (String × DataW Unit)} (h : laidMet P (x :: r) W) : laidMet P r W := by
  obtain ⟨ps, ⟨g, t, cs, fuel, p, q, _, _, _, _, hL, rfl⟩, hnd, hc⟩ := h
  exact ⟨q, hL, (List.nodup_append.1 hnd).2.1, fun b off hm => hc b off (List.mem_append.2 (.inr hm))⟩
def conD {H : Type} (c : Ex.Con) : DataW H := .agg [.lit (.string c.word), .lit (.int .i64 c.op), .lit (.int .i64 c.level), .lit (.int .i64 c.operands), .lit (.bool c.turned)]
section
variable {H : Type} {enc : TypeId × Value → H} {w : World} {base : Nat} {sp : Nat → Bool} {held : Bool}
theorem lit_str {n : Nat} {cs : List Value} {x : DataW H × List MemPlace} {s : List UInt8} (h : DataW.trod enc Tryz.prog w base sp held n 9 cs = some x) (hx : x.1 = .lit (.string s)) : cs = [.string (S s)] := by
  obtain ⟨z, rfl, rfl, _⟩ := DataW.trod_string Tryz.underlying9 h
  simp only [DataW.lit.injEq, Lit.string.injEq] at hx
  rw [← hx, S_list]
theorem lit_int {n : Nat} {cs : List Value} {x : DataW H × List MemPlace} {s : Int} (h : DataW.trod enc Tryz.prog w base sp held n 3 cs = some x) (hx : x.1 = .lit (.int .i64 s)) : cs = [.int .i64 s] := by
  obtain ⟨z, rfl, rfl, _⟩ := DataW.trod_int Tryz.underlying3 h
  simp only [DataW.lit.injEq, Lit.int.injEq, true_and] at hx
  rw [hx]
theorem lit_bool {n : Nat} {cs : List Value} {x : DataW H × List MemPlace} {s : Bool} (h : DataW.trod enc Tryz.prog w base sp held n 4 cs = some x) (hx : x.1 = .lit (.bool s)) : cs = [.bool s] := by
  obtain ⟨z, rfl, rfl⟩ := DataW.trod_bool Tryz.underlying4 h
  simp only [DataW.lit.injEq, Lit.bool.injEq] at hx
  rw [hx]
theorem con_cells (c : Ex.Con) {n : Nat} {cs : List Value} {x : DataW H × List MemPlace} (hlen : cs.length = 5) (h : DataW.trod enc Tryz.prog w base sp held n 96 cs = some x) (hx : x.1 = conD c) : cs = c.cells := by
  match cs, hlen with
  | [c0, c1, c2, c3, c4], _ =>
    obtain ⟨ys, m, _, rfl, _, hyl, hf⟩ := DataW.trod_struct Tryz.underlying96 h
    have hyl : ys.length = 5 := hyl
    have f0 := hf 0 _ rfl
    have f1 := hf 1 _ rfl
    have f2 := hf 2 _ rfl
    have f3 := hf 3 _ rfl
    have f4 := hf 4 _ rfl
    change DataW.trod _ _ _ _ _ _ _ 9 (([c0, c1, c2, c3, c4].drop 0).take (Tryz.prog.cellsOf 9)) = _ at f0
    change DataW.trod _ _ _ _ _ _ _ 3 (([c0, c1, c2, c3, c4].drop 1).take (Tryz.prog.cellsOf 3)) = _ at f1
    change DataW.trod _ _ _ _ _ _ _ 3 (([c0, c1, c2, c3, c4].drop 2).take (Tryz.prog.cellsOf 3)) = _ at f2
    change DataW.trod _ _ _ _ _ _ _ 3 (([c0, c1, c2, c3, c4].drop 3).take (Tryz.prog.cellsOf 3)) = _ at f3
    change DataW.trod _ _ _ _ _ _ _ 4 (([c0, c1, c2, c3, c4].drop 4).take (Tryz.prog.cellsOf 4)) = _ at f4
    rw [show Tryz.prog.cellsOf 9 = 1 by kernel_rfl] at f0
    rw [show Tryz.prog.cellsOf 3 = 1 by kernel_rfl] at f1 f2 f3
    rw [show Tryz.prog.cellsOf 4 = 1 by kernel_rfl] at f4
    simp only [List.drop_zero, List.drop_succ_cons, List.take_succ_cons, List.take_zero] at f0 f1 f2 f3 f4
    rw [List.getElem?_eq_getElem (by omega)] at f0 f1 f2 f3 f4
    have hxs : ys.map (·.1) = [.lit (.string c.word), .lit (.int .i64 c.op), .lit (.int .i64 c.level), .lit (.int .i64 c.operands), .lit (.bool c.turned)] := by
      simpa [conD] using hx
    have g : ∀ j, (hj : j < ys.length) → some (ys[j]).1 = ([.lit (.string c.word), .lit (.int .i64 c.op), .lit (.int .i64 c.level), .lit (.int .i64 c.operands), .lit (.bool c.turned)] : List (DataW H))[j]? := fun j hj => by
      rw [← hxs, List.getElem?_map, List.getElem?_eq_getElem hj]; rfl
    have e0 := lit_str f0 (Option.some.inj (g 0 (by omega)))
    have e1 := lit_int f1 (Option.some.inj (g 1 (by omega)))
    have e2 := lit_int f2 (Option.some.inj (g 2 (by omega)))
    have e3 := lit_int f3 (Option.some.inj (g 3 (by omega)))
    have e4 := lit_bool f4 (Option.some.inj (g 4 (by omega)))
    simp only [List.cons.injEq, and_true] at e0 e1 e2 e3 e4
    subst e0 e1 e2 e3 e4
    rfl
theorem chunks : ∀ (l : List Ex.Con) (cs : List Value), cs.length = l.length * 5 → (∀ i, (h : i < l.length) → (cs.drop (i * 5)).take 5 = l[i].cells) → cs = l.flatMap Ex.Con.cells
  | [], cs, h, _ => by simpa using h
  | c :: r, cs, h, hc => by
    have h0 := hc 0 (by simp)
    simp only [Nat.zero_mul, List.drop_zero, List.getElem_cons_zero] at h0
    have hr := chunks r (cs.drop 5) (by simp at h ⊢; omega) (fun i hi => by
      have := hc (i + 1) (by simp; omega)
      rw [List.drop_drop, show 5 + i * 5 = (i + 1) * 5 by omega]
      simpa using this)
    rw [List.flatMap_cons, ← hr, ← h0, List.take_append_drop]
theorem con_array {fuel : Nat} {cs : List Value} {p : List MemPlace} (h : DataW.trod enc Tryz.prog w base sp held fuel 135 cs = some (.agg (Ex.conL.map conD), p)) : cs = Ex.conC := by
  have ht : Tryz.prog.underlying 135 = some (.array 18 96) := by kernel_rfl
  have hce : Tryz.prog.cellsOf 96 = 5 := by kernel_rfl
  have hct : Tryz.prog.cellsOf 135 = 90 := by kernel_rfl
  cases fuel with
  | zero => simp [DataW.trod] at h
  | succ fuel =>
    simp only [DataW.trod, ht, hce, hct] at h
    split at h
    · rename_i hl
      obtain ⟨xs, hm, hx⟩ := Option.map_eq_some_iff.1 h
      have hxs : xs.map (·.1) = Ex.conL.map (conD (H := H)) := by
        have := congrArg Prod.fst hx
        simpa using this
      have hxl : xs.length = 18 := by simpa using Lib.mapM_length hm
      refine chunks Ex.conL cs (by have h18 : Ex.conL.length = 18 := rfl; rw [h18]; simpa using hl) fun i hi => ?_
      have hi18 : i < 18 := hi
      obtain ⟨b, hb, hf⟩ := Lib.mapM_at hm i i (by simp [hi18])
      refine con_cells Ex.conL[i] (by simp at hl ⊢; omega) hf ?_
      have h2 : (xs.map (·.1))[i]? = some b.1 := by simp [hb]
      rw [hxs, List.getElem?_map, List.getElem?_eq_getElem hi] at h2
      exact (Option.some.inj h2).symm
    · cases h
end
theorem ty_con_data : (Rows.laid_switchyard_expr_constructs : DataW Unit) = .agg (Ex.conL.map conD) := by kernel_rfl
theorem ty_cons {W : World} {r : List (String × DataW Unit)} (h : laidMet Tryz.prog (("switchyard/expr.constructs", Rows.laid_switchyard_expr_constructs) :: r) W) : Ex.ConsAt W := by
  rw [ty_con_data] at h
  obtain ⟨ps, ⟨g', t', cs, fuel, p, q, hg', ht', hvar, hd, _, _⟩, _⟩ := h
  have hgn : Tryz.prog.globalNamed "switchyard/expr.constructs" = some 0 := by kernel_rfl
  have htn : (Tryz.prog.globals[0]?).map (·.type) = some 135 := by kernel_rfl
  obtain rfl := Option.some.inj (hgn.symm.trans hg')
  obtain rfl := Option.some.inj (htn.symm.trans ht')
  have hcs := con_array hd
  have hcell : ∀ j v, Ex.conC[j]? = some v → W.cell? ⟨0, j, none⟩ = some v := fun j v hv => by
    have h0 := World.var?_cell hgn hvar j
    rw [h0, ← Array.getElem?_toList]
    have e : cs.toList = Ex.conC := hcs
    rw [e]
    exact hv
  refine ⟨fun j v hv => by rw [Nat.zero_add]; exact hcell j v hv, World.block_lt_of_cell? W _ (hcell 0 (.string (S [124, 124])) rfl)⟩
end Go.Proofs.YtlmmfhbdebfgkaaGreatDoor
namespace Go.Proofs.YtlmmfhbdebfgkaaGreatDoor
open Go.RowKit
theorem laid_exprAgain (W : World) (h : laidMetH Tryz.prog Rows.exprAgainRow.laid W) (hs : W.ShapedOpen Tryz.prog) : Lx.Laid W ∧ Ex.ConsAt W := by
  rw [MakeChecks.laidMetH_plain _ _ _ (by kernel_rfl)] at h
  exact ⟨lx_laid h hs, ty_cons (ty_tail (ty_tail (ty_tail (ty_tail (ty_tail (ty_tail (ty_tail h)))))))⟩
theorem laid_exprDeep (W : World) (h : laidMetH Tryz.prog Rows.exprDeepRow.laid W) (hs : W.ShapedOpen Tryz.prog) : Lx.Laid W ∧ Ex.ConsAt W := by
  rw [MakeChecks.laidMetH_plain _ _ _ (by kernel_rfl)] at h
  exact ⟨lx_laid h hs, ty_cons (ty_tail (ty_tail (ty_tail (ty_tail (ty_tail (ty_tail (ty_tail h)))))))⟩
theorem laid_exprJoins (W : World) (h : laidMetH Tryz.prog Rows.exprJoinsRow.laid W) (hs : W.ShapedOpen Tryz.prog) : Lx.Laid W ∧ Ex.ConsAt W := by
  rw [MakeChecks.laidMetH_plain _ _ _ (by kernel_rfl)] at h
  exact ⟨lx_laid h hs, ty_cons (ty_tail (ty_tail (ty_tail (ty_tail (ty_tail (ty_tail (ty_tail h)))))))⟩
end Go.Proofs.YtlmmfhbdebfgkaaGreatDoor
