/-
  Code in which a select, a send, a receive stands: the walk's judgement, of a plain call's frame alone.
-/
import Derived.Conc.LoneSelect
import Derived.Conc.LoneSelectN
import Derived.WalkKit
import Derived.Orders
namespace Go.Proofs.Ytfkmpegbidojoaa.Ch
open Go Go.Conc Go.RowKit
set_option linter.unusedVariables false

section
variable {P : Program} {Q : Exit → Act → World → Prop} {a : Act} {w : World}

/-- As the walk's own judgement, but of a plain call's frame: so communications may stand in it. -/
def wpK (P : Program) (c : Code) (Q : Exit → Act → World → Prop) (a : Act) (w : World) : Prop :=
  ∀ (b : Frame) (k : List Item) (cs : List Frame), b.kind = .normal →
    ∃ e a' w', Q e a' w' ∧ Arrives P (lone (b.at a (.code c :: k)) cs w) b k cs e a' w'
theorem wpK_of {c : Code} (h : c.wp P Q a w) : wpK P c Q a w := fun b k cs _ => h b k cs
theorem wpK_seq_k {x y : Code} (h : ∀ K : Act → World → Prop, (∀ a w, wpK P y Q a w → K a w) → wpK P x (Exit.then K Q) a w) : wpK P (.seq x y) Q a w := by
  have h := h (fun a w => wpK P y Q a w) (fun _ _ h => h)
  intro b k cs hb
  obtain ⟨e, a1, w1, hq, harr⟩ := h b (.code y :: k) cs hb
  cases e with
  | normal =>
    obtain ⟨e2, a2, w2, hq2, harr2⟩ := hq b k cs hb
    exact ⟨e2, a2, w2, hq2, .of_steps (.head step_seq harr) harr2⟩
  | _ => exact ⟨_, a1, w1, hq, .of_steps (.one step_seq) (.pass (x := .code y) rfl (fun _ _ => .inl (by simp)) harr)⟩
theorem wpK_seq {x y : Code} (h : ∀ K : Act → World → Prop, (∀ a w, wpK P y Q a w → K a w) → x.wp P (Exit.then K Q) a w) : wpK P (.seq x y) Q a w :=
  wpK_seq_k fun K hK => wpK_of (h K hK)
theorem wpK_cond {c : Operand} {x y : Code} {t : Bool} (hc : a.eval c = .bool t) (h : wpK P (if t then x else y) Q a w) : wpK P (.cond c x y) Q a w :=
  fun b k cs hb => let ⟨e, a', w', q, r⟩ := h b k cs hb; ⟨e, a', w', q, .of_steps (.one (step_cond hc)) r⟩
theorem wpK_block {id : Nat} {c : Code} (h : wpK P c (Exit.inBlock id Q) a w) : wpK P (.block id c) Q a w := by
  intro b k cs hb
  obtain ⟨e, a1, w1, hq, harr⟩ := h b (.inBlock id :: k) cs hb
  cases e with
  | normal => exact ⟨.normal, a1, w1, hq, .head step_block (Steps.trans harr (.one step_inBlock))⟩
  | exit id' =>
    by_cases hid : id' = id
    · simp only [Exit.inBlock, hid, if_true] at hq
      exact ⟨.normal, a1, w1, hq, .head step_block (harr k (by simp [exitTo, hid]))⟩
    · simp only [Exit.inBlock, hid, if_false] at hq
      refine ⟨.exit id', a1, w1, hq, fun k' hk => .head step_block (harr k' ?_)⟩
      have : (id == id') = false := by simp; exact fun h => hid h.symm
      simp [exitTo, this, hk]
  | goto l => exact ⟨_, a1, w1, hq, fun k' hk => .head step_block (harr k' (by simp [gotoIn, hk]))⟩
  | ret => exact ⟨_, a1, w1, hq, .of_steps (.one step_block) harr⟩
  | panic ch => exact ⟨_, a1, w1, hq, .of_steps (.one step_block) harr⟩
  | outgrown => exact ⟨_, a1, w1, hq, .of_steps (b := b) (k := k) (cs := cs) (e := .outgrown) (.one step_block) harr⟩
theorem wpK_loop {c : Code} (I : Nat → Act → World → Prop) (n : Nat) (h0 : I n a w)
    (round : ∀ n a w, I n a w → wpK P c (Exit.then (fun a' w' => ∃ m, m < n ∧ I m a' w') Q) a w) : wpK P (.loop c) Q a w := by
  intro b k cs hb
  have key : ∀ n a w, I n a w → ∃ e a' w', Q e a' w' ∧ Arrives P (lone (b.at a (.code c :: .inLoop c :: k)) cs w) b k cs e a' w' := by
    intro n
    induction n using Nat.strongRecOn with
    | _ n ih =>
      intro a w hI
      obtain ⟨e, a1, w1, hq, harr⟩ := round n a w hI b (.inLoop c :: k) cs hb
      cases e with
      | normal =>
        obtain ⟨m, hlt, hI1⟩ := hq
        obtain ⟨e2, a2, w2, hq2, harr2⟩ := ih m hlt a1 w1 hI1
        exact ⟨e2, a2, w2, hq2, .of_steps (Steps.trans harr (.one step_inLoop)) harr2⟩
      | _ => exact ⟨_, a1, w1, hq, .pass (x := .inLoop c) rfl (fun _ _ => .inl (by simp)) harr⟩
  obtain ⟨e, a', w', hq, harr⟩ := key n a w h0
  exact ⟨e, a', w', hq, .of_steps (.one step_loop) harr⟩
theorem calls_of_wpK {f : FuncId} {fn : Func} {c : Code} {args : Array Value} {R : Ending → World → Prop} (hf : P.funcs[f]? = some fn) (hb : fn.body = some c)
    (h : wpK P c (bodyPost P fn R) { tmps := args ++ Array.replicate (fn.ntmps - args.size) undef, defers := [] } w) : Calls P f args w R := by
  intro cs
  have henter := Conc.enter_at (P := P) (f := f) args hf hb
  obtain ⟨e, a', w', hq, harr⟩ := h (Conc.base f) [] cs rfl
  rw [← henter] at harr
  cases e with
  | normal =>
    obtain ⟨hd, v, hr, hR⟩ := hq
    exact ⟨.returned v, w', _, hR, Steps.trans harr (.one step_end), rfl, rfl, hd, rfl, fn, hf, hr⟩
  | ret =>
    obtain ⟨hd, v, hr, hR⟩ := hq
    obtain ⟨todo, hs⟩ := harr
    exact ⟨.returned v, w', _, hR, hs, rfl, rfl, hd, rfl, fn, hf, hr⟩
  | panic chain =>
    obtain ⟨hd, hR⟩ := hq
    obtain ⟨todo, hs⟩ := harr
    exact ⟨.panicked chain, w', _, hR, hs, rfl, rfl, hd, fn, hf⟩
  | exit id => exact hq.elim
  | goto l => exact hq.elim
  | outgrown => exact ⟨.outgrown, w', Conc.base f, hq, harr.resolve_left (by simp [Conc.base]), rfl, trivial⟩

/-- The rest of a region's operations, of a plain call's frame. -/
def opsK (P : Program) (ops : Array Oper) (Q : Exit → Act → World → Prop) (l : List Nat) (a : Act) (w : World) : Prop :=
  ∀ (b : Frame) (k : List Item) (cs : List Frame), b.kind = .normal → ∃ e a' w', Q e a' w' ∧ Arrives P (lone (b.at a (.inRegion ops l :: k)) cs w) b k cs e a' w'
variable {ops : Array Oper} {i : Nat} {rest : List Nat} {o : Oper}
theorem opsK_of {l : List Nat} (h : wpOps P ops Q l a w) : opsK P ops Q l a w := fun b k cs _ => wp_ops l a w h b k cs
theorem opsK_nil (h : Q .normal a w) : opsK P ops Q [] a w := fun b k cs _ => ⟨.normal, a, w, h, .one step_region_end⟩
theorem wpK_region {id : Nat} (h : opsK P ops Q (List.range ops.size) a w) : wpK P (.region id ops false) Q a w :=
  fun b k cs hb => let ⟨e, a', w', q, r⟩ := h b k cs hb; ⟨e, a', w', q, .of_steps (.one step_region) r⟩
theorem wpK_region_draw {id : Nat} (h : ∀ t, opsK P ops Q (Region.schedule (P.follows .mixedOrders) ops t) a { w with drawn := w.drawn + 1 }) : wpK P (.region id ops true) Q a w :=
  fun b k cs hb => let ⟨e, a', w', q, r⟩ := h _ b k cs hb; ⟨e, a', w', q, .of_steps (.one step_region_draw) r⟩
theorem opsK_skip (hs : ((ops[i]?).map (Region.wanted · (yielded ops a.tmps))).getD false = false) (h : opsK P ops Q rest (a.put ((ops[i]?).bind (·.dst)) undef) w) : opsK P ops Q (i :: rest) a w :=
  fun b k cs hb => let ⟨e, a', w', q, r⟩ := h b k cs hb; ⟨e, a', w', q, .of_steps (.one (step_op_skip hs)) r⟩
theorem opsK_value (ho : ops[i]? = some o) (hw : Region.wanted o (yielded ops a.tmps) = true) {v : Value} {w1 : World} (hr : (execOp a.eval o).run P w = .ok (.value v) w1)
    (h : opsK P ops Q rest (a.put o.dst v) w1) : opsK P ops Q (i :: rest) a w := by
  intro b k cs hb
  obtain ⟨e, a', w', hq, harr⟩ := h b k cs hb
  have hfin : (b.at a (.inRegion ops (i :: rest) :: k)).finish v = b.at (a.put o.dst v) (.inRegion ops rest :: k) := by rw [Frame.finish_at, ho]; rfl
  refine ⟨e, a', w', hq, .of_steps (.one (step_lone_go ?_)) harr⟩
  rw [stepG_op (P := P) (b := b) (k := k) (cs := cs) (w := w) (rest := rest) ho hw, ← hfin]
  simp [stepG.apply, hr]
theorem opsK_call (ho : ops[i]? = some o) (hw : Region.wanted o (yielded ops a.tmps) = true) {f : FuncId} {args : Array Value} {w1 : World} (hr : (execOp a.eval o).run P w = .ok (.enter f args) w1)
    (h : Calls P f args w1 fun e w2 => ∃ v, e = .returned v ∧ opsK P ops Q rest (a.put o.dst v) w2) : opsK P ops Q (i :: rest) a w := by
  intro b k cs hb
  have hg := stepG_op (P := P) (b := b) (k := k) (cs := cs) (w := w) (rest := rest) ho hw
  have hfin : ∀ v, (b.at a (.inRegion ops (i :: rest) :: k)).finish v = b.at (a.put o.dst v) (.inRegion ops rest :: k) := fun v => by rw [Frame.finish_at, ho]; rfl
  obtain ⟨e, w2, fr, ⟨v, rfl, hR⟩, hsteps, _, hleave⟩ := h (b.at a (.inRegion ops (i :: rest) :: k) :: cs)
  have henter : step P (lone (b.at a (.inRegion ops (i :: rest) :: k)) cs w) = .next (lone (Frame.enter P f args .normal) (b.at a (.inRegion ops (i :: rest) :: k) :: cs) w1) :=
    step_lone_go (by rw [hg]; simp [stepG.apply, hr, Frame.at])
  obtain ⟨e, a', w3, hq, harr⟩ := hR b k cs hb
  refine ⟨e, a', w3, hq, .of_steps (.head henter (Steps.trans hsteps (.one ?_))) harr⟩
  rw [← hfin]; exact step_leave_returned hleave
theorem opsK_comm (ho : ops[i]? = some o) (hw : Region.wanted o (yielded ops a.tmps) = true) {cases : Array CommCase} {blocking : Bool} {shape : CommShape} {v : Value} {w1 w2 : World} (hr : (execOp a.eval o).run P w = .ok (.comm cases blocking shape) w1)
    (hs : ∀ (fr : Frame) (cs : List Frame) es, stepG P true (G fr cs) w = .comm (G fr cs) cases blocking shape w1 es → step P (solo (G fr cs) w) = .next (solo (G (fr.finish v) cs) w2))
    (h : opsK P ops Q rest (a.put o.dst v) w2) : opsK P ops Q (i :: rest) a w := by
  intro b k cs hb
  obtain ⟨e, a', w', hq, harr⟩ := h b k cs hb
  have hfin : (b.at a (.inRegion ops (i :: rest) :: k)).finish v = b.at (a.put o.dst v) (.inRegion ops rest :: k) := by rw [Frame.finish_at, ho]; rfl
  have hst := hs _ _ _ (stepG_comm (b := b) (k := k) (cs := cs) (rest := rest) ho hw (by rw [hb]; decide) hr)
  rw [hfin] at hst
  exact ⟨e, a', w', hq, .of_steps (.one hst) harr⟩
theorem opsK_unit (ho : ops[i]? = some o) (hw : Region.wanted o (yielded ops a.tmps) = true) {w1 : World} (hr : (execOp a.eval o).run P w = .ok .skip w1)
    (h : opsK P ops Q rest (a.put o.dst undef) w1) : opsK P ops Q (i :: rest) a w := by
  intro b k cs hb
  obtain ⟨e, a', w', hq, harr⟩ := h b k cs hb
  have hfin : (b.at a (.inRegion ops (i :: rest) :: k)).finish undef = b.at (a.put o.dst undef) (.inRegion ops rest :: k) := by rw [Frame.finish_at, ho]; rfl
  refine ⟨e, a', w', hq, .of_steps (.one (step_lone_go ?_)) harr⟩
  rw [stepG_op (P := P) (b := b) (k := k) (cs := cs) (w := w) (rest := rest) ho hw, ← hfin]
  simp [stepG.apply, hr]
/-- The rest of a region behind a communication, by the walk's own words. -/
theorem opsK_list (l : List Oper) (k : Nat) (hl : ∀ j, l[j]? = ops[k + j]?) (h : wpList P ops Q l a w) : opsK P ops Q (List.range' k l.length) a w :=
  opsK_of (by rw [wpOps_eq_wpList l k hl]; exact h)

theorem opsK_rest (k : Nat) {l : List Oper} (hl : ops.toList.drop k = l) (h : wpList P ops Q l a w) : opsK P ops Q (List.range' k (ops.size - k)) a w := by
  have e : l.length = ops.size - k := by rw [← hl]; simp
  rw [← e]
  exact opsK_list l k (fun j => by rw [← hl]; simp) h

/-- One operation, whatever comes behind it. -/
def stepK (P : Program) (ops : Array Oper) (Q : Exit → Act → World → Prop) (i : Nat) (K : Act → World → Prop) (a : Act) (w : World) : Prop :=
  ∀ rest, (∀ a' w', K a' w' → opsK P ops Q rest a' w') → opsK P ops Q (i :: rest) a w
/-- Whatever order is picked from here on. -/
def anyK (P : Program) (md : Region.Mode) (ops : Array Oper) (Q : Exit → Act → World → Prop) : Nat → Array Bool → Act → World → Prop
  | 0, listed, a, w => Region.ready md ops listed = [] ∧ Q .normal a w
  | fuel + 1, listed, a, w =>
    (Region.ready md ops listed = [] → Q .normal a w) ∧
    ∀ i ∈ Region.ready md ops listed, stepK P ops Q i (anyK P md ops Q fuel (listed.setIfInBounds i true)) a w
theorem anyK_sound {md : Region.Mode} : ∀ (fuel t : Nat) (listed : Array Bool) (a : Act) (w : World), anyK P md ops Q fuel listed a w →
    opsK P ops Q (Region.linearise.go md ops fuel t listed []) a w := by
  intro fuel
  induction fuel with
  | zero => intro t listed a w h; simpa [Region.linearise.go] using opsK_nil h.2
  | succ fuel ih =>
    intro t listed a w h
    obtain ⟨h0, h1⟩ := h
    simp only [Region.linearise.go]
    change opsK P ops Q (match (Region.ready md ops listed)[t % (Region.ready md ops listed).length]? with
      | some i => Region.linearise.go md ops fuel (t / (Region.ready md ops listed).length) (listed.setIfInBounds i true) [i]
      | none => [].reverse) a w
    cases hi : (Region.ready md ops listed)[t % (Region.ready md ops listed).length]? with
    | none =>
      have hnil : Region.ready md ops listed = [] := by
        cases hr : Region.ready md ops listed with
        | nil => rfl
        | cons x xs =>
          rw [hr] at hi
          have hlt : t % (x :: xs).length < (x :: xs).length := Nat.mod_lt _ (by simp)
          simp at hi
          simp at hlt
          omega
      simpa using opsK_nil (h0 hnil)
    | some i =>
      simp only []
      rw [linearise_go_acc, List.reverse_singleton, List.singleton_append]
      exact h1 i (List.mem_of_getElem? hi) _ (fun a w => ih _ _ a w)
theorem wpK_region_any {id : Nat} (hm : P.follows .mixedOrders = true) (h : anyK P .any ops Q ops.size (Array.replicate ops.size false) a w.drew) : wpK P (.region id ops true) Q a w :=
  wpK_region_draw fun t => by
    simp only [Region.schedule, hm, Bool.true_or, if_true]
    exact anyK_sound ops.size t _ a _ h
section
variable {md : Region.Mode} {fuel : Nat} {listed : Array Bool} {j : Nat} {o2 : Oper} {v v2 : Value} {w1 w2 : World}
theorem anyK_done (hr : Region.ready md ops listed = []) (h : Q .normal a w) : ∀ fuel, anyK P md ops Q fuel listed a w
  | 0 => ⟨hr, h⟩
  | _ + 1 => ⟨fun _ => h, by rw [hr]; simp⟩
theorem anyK_one (i : Nat) (hr : Region.ready md ops listed = [i]) (h : stepK P ops Q i (anyK P md ops Q fuel (listed.setIfInBounds i true)) a w) : anyK P md ops Q (fuel + 1) listed a w :=
  ⟨fun h0 => by (rw [h0] at hr; cases hr), fun n hn => by rw [hr] at hn; obtain rfl : n = i := by simpa using hn
                                                          exact h⟩
theorem anyK_two (i j : Nat) (hr : Region.ready md ops listed = [i, j]) (h : stepK P ops Q i (anyK P md ops Q fuel (listed.setIfInBounds i true)) a w) (h2 : stepK P ops Q j (anyK P md ops Q fuel (listed.setIfInBounds j true)) a w) : anyK P md ops Q (fuel + 1) listed a w :=
  ⟨fun h0 => by (rw [h0] at hr; cases hr), fun n hn => by
    rw [hr] at hn
    rcases List.mem_cons.1 hn with rfl | hn
    · exact h
    · obtain rfl : n = j := by simpa using hn
      exact h2⟩
theorem stepK_value {K : Act → World → Prop} (ho : ops[i]? = some o) (hw : Region.wanted o (yielded ops a.tmps) = true) {v : Value} {w1 : World} (hr : (execOp a.eval o).run P w = .ok (.value v) w1) (h : K (a.put o.dst v) w1) : stepK P ops Q i K a w :=
  fun rest hk => opsK_value ho hw hr (hk _ _ h)
theorem stepK_comm {K : Act → World → Prop} (ho : ops[i]? = some o) (hw : Region.wanted o (yielded ops a.tmps) = true) {cases : Array CommCase} {blocking : Bool} {shape : CommShape} {v : Value} {w1 w2 : World} (hr : (execOp a.eval o).run P w = .ok (.comm cases blocking shape) w1)
    (hs : ∀ (fr : Frame) (cs : List Frame) es, stepG P true (G fr cs) w = .comm (G fr cs) cases blocking shape w1 es → step P (solo (G fr cs) w) = .next (solo (G (fr.finish v) cs) w2))
    (h : K (a.put o.dst v) w2) : stepK P ops Q i K a w :=
  fun rest hk => opsK_comm ho hw hr hs (hk _ _ h)
end
end

end Go.Proofs.Ytfkmpegbidojoaa.Ch
