/-
  EvJuncH, Until, ExBld.
-/
import Derived.Test.YtlmmfhbdebfgkaaGreatDoorVEvTreeQ
import Derived.Test.YtlmmfhbdebfgkaaGreatDoorVVaPureQ
import Derived.Test.YtlmmfhbdebfgkaaGreatDoorVExResQ
import Derived.Deep.RegionHeld
import Derived.Lib.Builder
import Derived.Lib.FrozenHead
import Derived.Lib.AppendStr
import Derived.OwnWalk
set_option linter.unusedVariables false
set_option linter.unusedSimpArgs false
set_option maxRecDepth 100000
set_option maxHeartbeats 2000000
namespace Go.Proofs.YtlmmfhbdebfgkaaGreatDoor.Ev
open Go.RowKit
open Ex Lx Va Ty
def EB (w : World) (H : Nat) (v : En) (r : Rows) : Prop := w.heap[H]? = some (.cells (envC v r) 55 (0, 0))
section
variable {w w' : World} {H : Nat} {v : En} {r : Rows}
theorem EB.c0 (h : EB w H v r) : w.cell? ⟨H, 0, none⟩ = some (.slice r.pa v.attrs.length r.ca) := cell_of_row w H 0 _ _ (0, 0) h
theorem EB.c1 (h : EB w H v r) : w.cell? ⟨H, 1, none⟩ = some (.slice r.pv v.vals.length r.cv) := cell_of_row w H 1 _ _ (0, 0) h
theorem EB.c2 (h : EB w H v r) : w.cell? ⟨H, 2, none⟩ = some (.slice r.pn v.names.length r.cn) := cell_of_row w H 2 _ _ (0, 0) h
theorem EB.c3 (h : EB w H v r) : w.cell? ⟨H, 3, none⟩ = some (.slice r.pf v.fields.length r.cf) := cell_of_row w H 3 _ _ (0, 0) h
theorem EB.lt (h : EB w H v r) : H < w.heap.size := World.block_lt_of_cell? w _ h.c0
theorem EB.later (h : EB w H v r) (k : Below w.heap.size w w') : EB w' H v r := (k.block H h.lt).trans h
end
theorem laterE {w w' : World} {H : Nat} {a b c d : Value} (h : Bx w H a b c d) (k : Below w.heap.size w w') : Bx w' H a b c d := (k.block H h.lt).trans h
structure TC (w : World) (g k : Nat) (o n : Int) (t : List UInt8) (q : Option Addr) (l c : Nat) : Prop where
  c0 : w.cell? ⟨g, k, none⟩ = some (.int .i64 o)
  c1 : w.cell? ⟨g, k + 1, none⟩ = some (.int .i64 n)
  c2 : w.cell? ⟨g, k + 2, none⟩ = some (.string (S t))
  c3 : w.cell? ⟨g, k + 3, none⟩ = some (.slice q l c)
  lt : g < w.heap.size
theorem TC.later {w w' : World} {g k : Nat} {o n : Int} {t : List UInt8} {q : Option Addr} {l c : Nat} (h : TC w g k o n t q l c) (b : Below w.heap.size w w') : TC w' g k o n t q l c :=
  ⟨(b.cell (p := ⟨g, _, none⟩) h.lt).trans h.c0, (b.cell (p := ⟨g, _, none⟩) h.lt).trans h.c1, (b.cell (p := ⟨g, _, none⟩) h.lt).trans h.c2, (b.cell (p := ⟨g, _, none⟩) h.lt).trans h.c3, Nat.lt_of_lt_of_le h.lt b.size⟩
end Go.Proofs.YtlmmfhbdebfgkaaGreatDoor.Ev
namespace Go.Proofs.YtlmmfhbdebfgkaaGreatDoor.Cd
open Go Go.RowKit
section
variable {P : Program} {ops : Array Oper} {Q : Exit → Act → World → Prop} {md : Region.Mode} {S : World → Prop} {k : Nat}
def wpAnyU (P : Program) (md : Region.Mode) (ops : Array Oper) (Q : Exit → Act → World → Prop) (S : World → Prop) (k : Nat) : Nat → Array Bool → Act → World → Prop
  | 0, listed, a, w => Region.ready md ops listed = [] ∧ Q .normal a w
  | fuel + 1, listed, a, w =>
    (Region.ready md ops listed = [] → Q .normal a w) ∧
    ∀ i ∈ Region.ready md ops listed, wpOp P ops Q i (fun a' w' => ((listed.setIfInBounds i true).getD k true = false → S w') ∧ wpAnyU P md ops Q S k fuel (listed.setIfInBounds i true) a' w') a w
theorem wpAny_of_until : ∀ (fuel : Nat) (listed : Array Bool) (a : Act) (w : World), wpAnyU P md ops Q S k fuel listed a w → wpAny P md ops Q fuel listed a w
  | 0, _, _, _, h => h
  | fuel + 1, _, _, _, h => ⟨h.1, fun i hi => wpOp_mono (fun a' w' h' => wpAny_of_until fuel _ a' w' h'.2) (h.2 i hi)⟩
def chained (md : Region.Mode) (ops : Array Oper) (i : Nat) (ch : List Nat) : Bool :=
  ch.all fun c => c != i && match ops[c]? with
    | some o => o.after.any fun e => Region.binds md e && (e.on == i || ch.contains e.on)
    | none => false
theorem chained_not {i : Nat} {ch : List Nat} {listed : Array Bool} (hc : chained md ops i ch = true) (hi : listed.getD i true = false) (hl : ∀ c ∈ ch, listed.getD c true = false) {j : Nat} (hj : j ∈ Region.ready md ops listed) : j ∉ ch := fun hm => by
  have h1 := List.all_eq_true.1 hc j hm
  obtain ⟨_, o, ho, hall⟩ := mem_ready.1 hj
  rw [ho] at h1
  simp only [Bool.and_eq_true, Array.any_eq_true', Bool.or_eq_true, beq_iff_eq, List.contains_iff_mem] at h1
  obtain ⟨_, e, he, hb, hon⟩ := h1
  have h2 := hall e he hb
  have h3 : listed.getD e.on true = false := by
    rcases hon with hon | hon
    · rw [hon]; exact hi
    · exact hl _ hon
  rcases Nat.lt_or_ge e.on listed.size with h' | h'
  · simp [h'] at h2 h3; rw [h3] at h2; cases h2
  · simp [Array.getElem?_eq_none h'] at h2
theorem wpAnyU_first {i : Nat} {oi : Oper} {v : Value} {ch : List Nat} (hk : k ∈ ch) (hc : chained md ops i ch = true) (hi : ops[i]? = some oi) (hsel : ∀ (j : Nat) (o : Oper) cs b, ops[j]? = some o → o.op ≠ .select cs b)
    (hQ : ∀ c a w, Q (.panic c) (a.put oi.dst v) w → Q (.panic c) a w) :
    ∀ (fuel : Nat) (listed : Array Bool) (a : Act) (w : World),
      (∀ j oj, ops[j]? = some oj → j ≠ i → listed.getD j true = false → (∀ e ∈ oj.after, Region.binds md e = true → e.on ≠ i) → oi.apart ops oj = true) →
      (∀ c ∈ ch, listed.getD c true = false) →
      i ∈ Region.ready md ops listed → YieldsIf P ops S oi v a → S w →
      wpAnyU P md ops Q S k fuel (listed.setIfInBounds i true) (a.put oi.dst v) w → wpAnyU P md ops Q S k (fuel + 1) listed a w := by
  intro fuel
  induction fuel with
  | zero =>
    intro listed a w _ hch hr hy hS H
    refine ⟨fun h => (by rw [h] at hr; cases hr), fun j hj => ?_⟩
    by_cases hji : j = i
    · subst hji; exact hy.wpOp hi hS ⟨fun _ => hS, H⟩
    · have := ready_mono hj hji
      rw [H.1] at this
      cases this
  | succ fuel ih =>
    intro listed a w hfree hch hr hy hS H
    refine ⟨fun h => (by rw [h] at hr; cases hr), fun j hj => ?_⟩
    by_cases hji : j = i
    · subst hji; exact hy.wpOp hi hS ⟨fun _ => hS, H⟩
    · have h1 := H.2 j (ready_mono hj hji)
      have hjc := chained_not hc (mem_ready.1 hr).1 hch hj
      obtain ⟨hjun, oj, hoj, hall⟩ := mem_ready.1 hj
      have hki : i ≠ k := fun e => by
        have := List.all_eq_true.1 hc k hk
        rw [← e] at this
        simp at this
      have hkj : j ≠ k := fun e => hjc (e ▸ hk)
      have hks : ((listed.setIfInBounds i true).setIfInBounds j true).getD k true = false := by
        rw [getD_set_ne true hkj, getD_set_ne true hki]; exact hch k hk
      have hnot : ∀ e ∈ oj.after, Region.binds md e = true → e.on ≠ i := fun e he hb heq => by
        have h1 := hall e he hb
        have h0 := (mem_ready.1 hr).1
        rw [heq] at h1
        rcases Nat.lt_or_ge i listed.size with h' | h'
        · simp [h'] at h0 h1; rw [h0] at h1; cases h1
        · simp [Array.getElem?_eq_none h'] at h1
      have h2 := wpOp_putIf hoj (hfree j oj hoj hji hjun hnot) (fun cs b => hsel i oi cs b hi) (fun cs b => hsel j oj cs b hoj) hQ hy h1
      have hfree' : ∀ k ok, ops[k]? = some ok → k ≠ i → (listed.setIfInBounds j true).getD k true = false →
          (∀ e ∈ ok.after, Region.binds md e = true → e.on ≠ i) → oi.apart ops ok = true := fun k ok hk hki hun hno => by
        refine hfree k ok hk hki ?_ hno
        by_cases hjk : j = k
        · subst hjk; exact hjun
        · rw [getD_set_ne true hjk] at hun; exact hun
      have hch' : ∀ c ∈ ch, (listed.setIfInBounds j true).getD c true = false := fun c hc' => by
        rw [getD_set_ne true (fun (e : j = c) => hjc (by rw [e]; exact hc'))]; exact hch c hc'
      refine wpOp_mono (fun a' w' h3 => ⟨fun _ => h3.2.1 hks, ih (listed.setIfInBounds j true) a' w' hfree' hch' (ready_mono hr (Ne.symm hji)) h3.1 (h3.2.1 hks) ?_⟩) h2
      rw [Array.setIfInBounds_comm _ _ hji]
      exact h3.2.2
theorem untilW {oi : Oper} {v : Value} {fuel : Nat} {listed : Array Bool} {a : Act} {w : World} (i : Nat) (ch : List Nat) (hk : k ∈ ch) (hc : chained md ops i ch = true) (hl : (ch.all fun c => !listed.getD c true) = true)
    (hr : (Region.ready md ops listed).contains i = true)
    (hf : Region.free md ops listed i = true) (hs : Region.noSelect ops = true) (hi : ops[i]? = some oi) (hw : Region.wanted oi (yielded ops a.tmps) = true)
    (hQ : ∀ c a w, Q (.panic c) (a.put oi.dst v) w → Q (.panic c) a w) (hS : S w) (hy : ∀ w, S w → (execOp a.eval oi).run P w = .ok (.value v) w)
    (h : wpAnyU P md ops Q S k fuel (listed.setIfInBounds i true) (a.put oi.dst v) w) : wpAnyU P md ops Q S k (fuel + 1) listed a w :=
  wpAnyU_first hk hc hi (Region.noSelect_spec hs) hQ fuel listed a w (Region.free_spec hi hf) (fun c hc' => by have := List.all_eq_true.1 hl c hc'; simpa using this) (by simpa using hr) (Or.inl ⟨hw, hy⟩) hS h
theorem wpAnyU_any {i : Nat} {oi : Oper} {v : Value} (hik : i ≠ k) (hi : ops[i]? = some oi) (hsel : ∀ (j : Nat) (o : Oper) cs b, ops[j]? = some o → o.op ≠ .select cs b)
    (hQ : ∀ c a w, Q (.panic c) (a.put oi.dst v) w → Q (.panic c) a w) :
    ∀ (fuel : Nat) (listed : Array Bool) (a : Act) (w : World),
      (∀ j oj, ops[j]? = some oj → j ≠ i → listed.getD j true = false → (∀ e ∈ oj.after, Region.binds md e = true → e.on ≠ i) → oi.apart ops oj = true) →
      i ∈ Region.ready md ops listed → YieldsIf P ops (fun _ => True) oi v a → (listed.getD k true = false → S w) →
      wpAnyU P md ops Q S k fuel (listed.setIfInBounds i true) (a.put oi.dst v) w → wpAnyU P md ops Q S k (fuel + 1) listed a w := by
  intro fuel
  induction fuel with
  | zero =>
    intro listed a w _ hr hy hS H
    refine ⟨fun h => (by rw [h] at hr; cases hr), fun j hj => ?_⟩
    by_cases hji : j = i
    · subst hji; exact hy.wpOp hi trivial ⟨fun h => hS (by rw [getD_set_ne true hik] at h; exact h), H⟩
    · have := ready_mono hj hji
      rw [H.1] at this
      cases this
  | succ fuel ih =>
    intro listed a w hfree hr hy hS H
    refine ⟨fun h => (by rw [h] at hr; cases hr), fun j hj => ?_⟩
    by_cases hji : j = i
    · subst hji; exact hy.wpOp hi trivial ⟨fun h => hS (by rw [getD_set_ne true hik] at h; exact h), H⟩
    · have h1 := H.2 j (ready_mono hj hji)
      obtain ⟨hjun, oj, hoj, hall⟩ := mem_ready.1 hj
      have hks : (listed.setIfInBounds j true).getD k true = false → ((listed.setIfInBounds i true).setIfInBounds j true).getD k true = false := fun h => by
        rw [Array.setIfInBounds_comm _ _ (Ne.symm hji), getD_set_ne true hik]; exact h
      have hnot : ∀ e ∈ oj.after, Region.binds md e = true → e.on ≠ i := fun e he hb heq => by
        have h1 := hall e he hb
        have h0 := (mem_ready.1 hr).1
        rw [heq] at h1
        rcases Nat.lt_or_ge i listed.size with h' | h'
        · simp [h'] at h0 h1; rw [h0] at h1; cases h1
        · simp [Array.getElem?_eq_none h'] at h1
      have h2 := wpOp_putIf hoj (hfree j oj hoj hji hjun hnot) (fun cs b => hsel i oi cs b hi) (fun cs b => hsel j oj cs b hoj) hQ hy h1
      have hfree' : ∀ k ok, ops[k]? = some ok → k ≠ i → (listed.setIfInBounds j true).getD k true = false →
          (∀ e ∈ ok.after, Region.binds md e = true → e.on ≠ i) → oi.apart ops ok = true := fun k ok hk hki hun hno => by
        refine hfree k ok hk hki ?_ hno
        by_cases hjk : j = k
        · subst hjk; exact hjun
        · rw [getD_set_ne true hjk] at hun; exact hun
      refine wpOp_mono (fun a' w' h3 => ⟨fun h => h3.2.1 (hks h), ih (listed.setIfInBounds j true) a' w' hfree' (ready_mono hr (Ne.symm hji)) h3.1 (fun h => h3.2.1 (hks h)) ?_⟩) h2
      rw [Array.setIfInBounds_comm _ _ hji]
      exact h3.2.2
theorem untilT {oi : Oper} {v : Value} {fuel : Nat} {listed : Array Bool} {a : Act} {w : World} (i : Nat) (hik : i ≠ k)
    (hr : (Region.ready md ops listed).contains i = true)
    (hf : Region.free md ops listed i = true) (hs : Region.noSelect ops = true) (hi : ops[i]? = some oi) (hw : Region.wanted oi (yielded ops a.tmps) = true)
    (hQ : ∀ c a w, Q (.panic c) (a.put oi.dst v) w → Q (.panic c) a w) (hS : listed.getD k true = false → S w) (hy : ∀ w, (execOp a.eval oi).run P w = .ok (.value v) w)
    (h : wpAnyU P md ops Q S k fuel (listed.setIfInBounds i true) (a.put oi.dst v) w) : wpAnyU P md ops Q S k (fuel + 1) listed a w :=
  wpAnyU_any hik hi (Region.noSelect_spec hs) hQ fuel listed a w (Region.free_spec hi hf) (by simpa using hr) (Or.inl ⟨hw, fun w _ => hy w⟩) hS h
theorem until_one {o : Oper} {i : Nat} {fuel : Nat} {listed : Array Bool} {a : Act} {w : World} (hr : Region.ready md ops listed = [i]) (ho : ops[i]? = some o)
    (h : ∀ K' : Act → World → Prop, Shut (∀ a w, ((listed.setIfInBounds i true).getD k true = false → S w) → wpAnyU P md ops Q S k fuel (listed.setIfInBounds i true) a w → K' a w) → if Region.wanted o (yielded ops a.tmps) = true then Oper.wp P o a w K' Q else K' (a.put o.dst undef) w) :
    wpAnyU P md ops Q S k (fuel + 1) listed a w := by
  refine ⟨fun h0 => (by rw [h0] at hr; cases hr), fun j hj => ?_⟩
  rw [hr] at hj
  obtain rfl : j = i := by simpa using hj
  exact wpOp_step ho (fun K' hK => h K' (fun a w hS hW => hK a w ⟨hS, hW⟩))
theorem until_two {o p : Oper} {i j : Nat} {fuel : Nat} {listed : Array Bool} {a : Act} {w : World} (hr : Region.ready md ops listed = [i, j]) (ho : ops[i]? = some o) (hp : ops[j]? = some p)
    (h : ∀ K' : Act → World → Prop, Shut (∀ a w, ((listed.setIfInBounds i true).getD k true = false → S w) → wpAnyU P md ops Q S k fuel (listed.setIfInBounds i true) a w → K' a w) → if Region.wanted o (yielded ops a.tmps) = true then Oper.wp P o a w K' Q else K' (a.put o.dst undef) w)
    (h2 : ∀ K' : Act → World → Prop, Shut (∀ a w, ((listed.setIfInBounds j true).getD k true = false → S w) → wpAnyU P md ops Q S k fuel (listed.setIfInBounds j true) a w → K' a w) → if Region.wanted p (yielded ops a.tmps) = true then Oper.wp P p a w K' Q else K' (a.put p.dst undef) w) :
    wpAnyU P md ops Q S k (fuel + 1) listed a w := by
  refine ⟨fun h0 => (by rw [h0] at hr; cases hr), fun n hn => ?_⟩
  rw [hr] at hn
  rcases List.mem_cons.1 hn with rfl | hn
  · exact wpOp_step ho (fun K' hK => h K' (fun a w hS hW => hK a w ⟨hS, hW⟩))
  · obtain rfl : n = j := by simpa using hn
    exact wpOp_step hp (fun K' hK => h2 K' (fun a w hS hW => hK a w ⟨hS, hW⟩))
theorem until_done {listed : Array Bool} {a : Act} {w : World} (hr : Region.ready md ops listed = []) (h : Q .normal a w) :
    ∀ fuel, wpAnyU P md ops Q S k fuel listed a w
  | 0 => ⟨hr, h⟩
  | _ + 1 => ⟨fun _ => h, by rw [hr]; simp⟩
theorem until_start {id : Nat} {a : Act} {w : World} (k : Nat) (S : World → Prop) (hm : P.follows .mixedOrders = true)
    (h : wpAnyU P .any ops Q S k ops.size (Array.replicate ops.size false) a w.drew) : (Code.region id ops true).wp P Q a w :=
  wp_region_any hm (wpAny_of_until _ _ _ _ h)
end
end Go.Proofs.YtlmmfhbdebfgkaaGreatDoor.Cd
namespace Go.Proofs.YtlmmfhbdebfgkaaGreatDoor.Ex
open Go.RowKit
open Lx
def WrB (w : World) (b : Nat) (p v : Value) (o d : Int) : Prop := w.heap[b]? = some (.cells #[p, v, .int .i64 o, .int .i64 d] 71 (0, 0))
section
variable {w w' : World} {b : Nat} {p v : Value} {o d : Int}
theorem WrB.c0 (h : WrB w b p v o d) : w.cell? ⟨b, 0, none⟩ = some p := cell_of_row w b 0 _ _ (0, 0) h
theorem WrB.c1 (h : WrB w b p v o d) : w.cell? ⟨b, 1, none⟩ = some v := cell_of_row w b 1 _ _ (0, 0) h
theorem WrB.c2 (h : WrB w b p v o d) : w.cell? ⟨b, 2, none⟩ = some (.int .i64 o) := cell_of_row w b 2 _ _ (0, 0) h
theorem WrB.c3 (h : WrB w b p v o d) : w.cell? ⟨b, 3, none⟩ = some (.int .i64 d) := cell_of_row w b 3 _ _ (0, 0) h
theorem WrB.fz (h : WrB w b p v o d) (j : Nat) : w.frozen? ⟨b, j, none⟩ = false := frozen_of_row w b j _ _ h
theorem WrB.lt (h : WrB w b p v o d) : b < w.heap.size := World.block_lt_of_cell? w _ h.c0
theorem WrB.shape (h : WrB w b p v o d) : w.shape? b = some (71, 4) := by simp [World.shape?, show w.heap[b]? = _ from h]
theorem WrB.set0 (h : WrB w b p v o d) (x : Value) : WrB (w.setCell ⟨b, 0, none⟩ x) b x v o d := heap_setCell_same w b 0 _ _ _ h
theorem WrB.set1 (h : WrB w b p v o d) (x : Value) : WrB (w.setCell ⟨b, 1, none⟩ x) b p x o d := heap_setCell_same w b 1 _ _ _ h
theorem WrB.keep {ok : Nat → Prop} (h : WrB w b p v o d) (k : Kept ok w w') (hb : ok b) : WrB w' b p v o d := (k.block b hb h.lt).trans h
end
theorem wr_info : (Tryz.prog.info? 69).map (·.size) = some 2 := by kernel_rfl
theorem wr_lies : liesAt Tryz.prog Tryz.prog.depth 71 (4 / Tryz.prog.cellsOf 71) 0 69 1 = true := by kernel_rfl
theorem wcheck_fresh (b : Nat) (w : World) (v : Value) (o d : Int) (h : WrB w b (.pointer none) v o d) :
    Calls Tryz.prog 65 #[.pointer (some ⟨b, 0, none⟩)] w fun e w' => e = .returned (.tuple #[]) ∧ w' = w.setCell ⟨b, 0, none⟩ (.pointer (some ⟨b, 0, none⟩)) := by
  obtain ⟨j, hj, hjs⟩ := Option.map_eq_some_iff.1 wr_info
  have h0 := h.c0
  have hsh := h.shape
  have hfz := h.fz 0
  go_enter Tryz.func65, Tryz.ntmps65
  go_wp2
  rw [Lib.run_to_unsafe w ⟨b, 0, none⟩ Tryz.underlying66 Tryz.underlying170 hj (by rw [hjs]; decide) hsh (show 0 < 4 by decide)]
  simp only [Result.andThen]
  rw [Oper.upon_value]
  go_wp2
  rw [run_callFunc_extern Tryz.func112 (by kernel_rfl) (by kernel_rfl) (by kernel_rfl) (e := Extern.AbiNoEscape.same) (by kernel_rfl)]
  rw [Lib.run_noEscape]
  simp only [Result.andThen]
  rw [Oper.upon_value]
  go_wp2
  rw [Lib.run_from_unsafe w ⟨b, 0, none⟩ Tryz.underlying170 Tryz.underlying66 hj hsh wr_lies]
  simp only [Result.andThen]
  rw [Oper.upon_value]
  go_wp2
  go_end0
  exact ⟨rfl, rfl⟩
theorem wcheck_used (b : Nat) (w : World) (v : Value) (o d : Int) (h : WrB w b (.pointer (some ⟨b, 0, none⟩)) v o d) :
    Calls Tryz.prog 65 #[.pointer (some ⟨b, 0, none⟩)] w fun e w' => e = .returned (.tuple #[]) ∧ w = w' := by
  obtain ⟨j, hj, hjs⟩ := Option.map_eq_some_iff.1 wr_info
  have h0 := h.c0
  have hne := fun w1 => Lib.run_neq_ptr_same (P := Tryz.prog) (tp := 66) (te := 69) (w := w1) ⟨b, 0, none⟩ Tryz.underlying66 hj
  clear h
  go_enter Tryz.func65, Tryz.ntmps65
  go_wp2
  go_end0
  exact ⟨rfl, rfl⟩
theorem wpList_apx {P : Program} {ops : Array Oper} {rest : List Oper} {o : Oper} {a : Act} {w : World} {Q : Exit → Act → World → Prop} (hgd : o.guard = none) (s x : Operand) (t u : TypeId)
    (ho : o.op = .call { callee := .builtin .append, args := #[s, x], argTypes := #[t, u] }) {v vx : Value} (hs : a.eval s = v) (hx : a.eval x = vx) (v' : Value) (w' : World)
    (hr : (Builtin.append_ #[t, u] o.type #[v, vx]).run P w = .ok v' w') (h : wpList P ops Q rest (a.put o.dst v') w') : wpList P ops Q (o :: rest) a w := by
  refine wpList_plain hgd fun K hK => ?_
  unfold Oper.wp execOp
  simp only [ho, resolve, invoke, builtin, Sem.run_bind, Sem.run_pure, Result.andThen_ok, List.map_toArray, List.map_cons, List.map_nil, hs, hx, hr]
  exact hK _ _ h
structure Wr (w : World) (b : Nat) (l : List UInt8) (o d : Int) : Prop where
  has : ∃ p v, WrB w b p v o d ∧ (p = .pointer none ∨ p = .pointer (some ⟨b, 0, none⟩)) ∧ w.ownsRow (b + 1) 5 1 v l.length (Lib.byteCells l)
theorem info_u8 : (Tryz.prog.info? 5).map (fun i => (i.zero, i.size, i.bytes)) = some (some (.int .u8 0), 1, 1) := by kernel_rfl
theorem wcheck_any (b : Nat) (w : World) (p v : Value) (o d : Int) (h : WrB w b p v o d) (hp : p = .pointer none ∨ p = .pointer (some ⟨b, 0, none⟩)) :
    Calls Tryz.prog 65 #[.pointer (some ⟨b, 0, none⟩)] w fun e w' => e = .returned (.tuple #[]) ∧ WrB w' b (.pointer (some ⟨b, 0, none⟩)) v o d ∧ Only b w w' ∧ w'.heap.size = w.heap.size := by
  rcases hp with rfl | rfl
  · refine (wcheck_fresh b w v o d h).mono ?_
    rintro e w' ⟨rfl, rfl⟩
    exact ⟨rfl, h.set0 _, Only.set b w 0 _, by simp⟩
  · refine (wcheck_used b w v o d h).mono ?_
    rintro e w' ⟨rfl, rfl⟩
    exact ⟨rfl, h, Only.refl _ _, rfl⟩
end Go.Proofs.YtlmmfhbdebfgkaaGreatDoor.Ex
