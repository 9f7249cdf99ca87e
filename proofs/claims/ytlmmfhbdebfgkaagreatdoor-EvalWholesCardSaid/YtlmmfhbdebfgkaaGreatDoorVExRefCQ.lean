/-
  ExRefC, ExRefD.
-/
import Derived.Test.YtlmmfhbdebfgkaaGreatDoorVExRefLQ
import Derived.Deep.RegionLaw
set_option linter.unusedVariables false
set_option linter.unusedSimpArgs false
set_option maxRecDepth 100000
set_option maxHeartbeats 4000000
namespace Go.Proofs.YtlmmfhbdebfgkaaGreatDoor.Ex
open Go.RowKit
open Lx
theorem step_appR {P : Program} {ops : Array Oper} {o : Oper} {a : Act} {w : World} {K : Act → World → Prop} {Q : Exit → Act → World → Prop} {E : Prop} (hgd : o.guard = none) (s x : Operand) (t u : TypeId)
    (ho : o.op = .call { callee := .builtin .append, args := #[s, x], argTypes := #[t, u] }) {v vx : Value} (hs : a.eval s = v) (hx : a.eval x = vx) (v' : Value) (w' : World)
    (hr : (Builtin.append_ #[t, u] o.type #[v, vx]).run P w = .ok v' w') (h : K (a.put o.dst v') w') : if Region.wanted o (yielded ops a.tmps) = true then Oper.wp P o a w K Q else E := by
  have hw : Region.wanted o (yielded ops a.tmps) = true := by simp [Region.wanted, hgd]
  rw [if_pos hw]
  unfold Oper.wp execOp
  simp only [ho, resolve, invoke, builtin, Sem.run_bind, Sem.run_pure, Result.andThen_ok, List.map_toArray, List.map_cons, List.map_nil, hs, hx, hr]
  exact h
theorem Only.thenB {b B : Nat} {w w5 w6 : World} (h : Only b w w5) (k : Below B w5 w6) (hB : w.heap.size ≤ B) (hs : w5.heap.size ≤ w6.heap.size) : Only b w w6 :=
  ⟨k.os.trans h.os, k.tape.trans h.tape, k.output.trans h.output, Nat.le_trans h.size hs, fun i hi hn => (k.block i (Nat.lt_of_lt_of_le hi hB)).trans (h.block i hi hn)⟩
theorem Kept.low {B : Nat} {w w' : World} (k : Below B w w') (hs : w.heap.size ≤ w'.heap.size) : Kept (· < B) w w' := ⟨hs, fun g hg _ => k.block g hg⟩
structure ApR (b B : Nat) (w5 : World) (v : Value) (k : Nat) (o m : Int) (t : List UInt8) (q : Option Addr) (kk c : Nat) (p : Option Addr) (c' : Nat) (w6 : World) : Prop where
  run : (Builtin.append_ #[22, 22] 22 #[v, .slice (some ⟨w5.heap.size, 0, none⟩) 1 1]).run Tryz.prog (w5.alloc (.cells #[.int .i64 o, .int .i64 m, .string (S t), .slice q kk c] 24)) = .ok (.slice p (k + 1) c') w6
  below : Below B w5 w6
  size : w5.heap.size < w6.heap.size
theorem ap_ok (b B : Nat) (v : Value) (xs : List X) (w4 w5 : World) (hB : B ≤ w4.heap.size) (hr : XR w4 B v xs) (hn : xs.length ≤ 100000) (o5 : Only b w4 w5) (hb : b < B) (y : T) (qy : Option Addr) (cy : Nat) (hfy : FAt w5 (w4.heap.size ≤ ·) y.args qy) :
    ∃ p c' w6, ApR b B w5 v xs.length y.op y.num y.text qy y.args.len cy p c' w6 ∧ XR w6 B (.slice p (xs.length + 1) c') (xs ++ [⟨y, qy, cy⟩]) := by
  have hr5 : XR w5 B v xs := hr.later (o5.keptB (by omega))
  have hlt := World.ownsRow.lt hr.own
  have hs5 := o5.size
  obtain ⟨v', w6, hrun, hx6, hb6, hs6, _⟩ := app_x B v xs w5 hr5 (by omega) hn ⟨y, qy, cy⟩ (FAt.mono (fun g _ hg => ⟨Nat.le_trans hB hg, fun e => by have h1 := hlt g e.symm; have h2 : w4.heap.size ≤ g := hg; omega⟩) _ _ hfy) w5.heap.size rfl
  obtain ⟨p, c', rfl, _⟩ := hx6.row
  rw [List.length_append] at hrun hx6
  exact ⟨p, c', w6, ⟨hrun, hb6, hs6⟩, hx6⟩
theorem ap_bad (b B : Nat) (v : Value) (xs : List X) (w4 w5 : World) (hB : B ≤ w4.heap.size) (hr : XR w4 B v xs) (hn : xs.length ≤ 100000) (o5 : Only b w4 w5) (hb : b < B) (o m : Int) (t : List UInt8) (q : Option Addr) (kk c : Nat) :
    ∃ p c' w6, ApR b B w5 v xs.length o m t q kk c p c' w6 := by
  have hr5 : XR w5 B v xs := hr.later (o5.keptB (by omega))
  have hs5 := o5.size
  obtain ⟨p, c', w6, hrun, hb6, hs6⟩ := app_y B v xs.length (xsC xs) w5 hr5.own (by omega) hn o m t q kk c w5.heap.size rfl
  exact ⟨p, c', w6, ⟨hrun, hb6, hs6⟩⟩
def clR (rec : St → R) (ts : List TA) (op : Int) (n : Nat) (xs : List X) (s : St) : R :=
  if xs = [] then (rec s).then fun y s2 => argsR rec ts op (n - 1) (F.nil.snoc y) s2 else argsR rec ts op (n - xs.length) (rowF xs) s
theorem clR_snoc (rec : St → R) (ts : List TA) (op : Int) (n : Nat) (xs : List X) (x : X) (s : St) : clR rec ts op n (xs ++ [x]) s = argsR rec ts op (n - (xs.length + 1)) ((rowF xs).snoc x.t) s := by
  unfold clR
  rw [if_neg (by simp), rowF_snoc, List.length_append]
  rfl
def ClS (b g cap : Nat) (ts : List TA) (rec : St → R) (op : Int) (n o1 B X : Nat) (FIN : R) (i : Nat) (wr : World) : Prop :=
  ∃ q k c, Bx wr X (.int .i64 op) (.int .i64 0) (.string (S [])) (.slice q k c) ∧
    ((∃ xs s, XR wr B (.slice q k c) xs ∧ k = xs.length ∧ i = xs.length ∧ i ≤ n ∧ Rdg wr b g cap ts.length s.at_ s.n s.open_ 0 0 ∧ StOk ts s ∧ s.open_ = o1 ∧ clR rec ts op n xs s = FIN) ∨
     (∃ er a : Nat, er ≠ 0 ∧ (∃ a' n' o', Rdg wr b g cap ts.length a' n' o' (er : Int) (a : Int)) ∧ FIN = .bad er a))
theorem ropens_u (b g cap len : Nat) (a n : Int) (o : Nat) (w : World) (h : Rdg w b g cap len a n o 0 0) (hn : o ≤ 20) :
    Calls Tryz.prog 173 #[.pointer (some ⟨b, 0, none⟩)] w fun e w' => e = .returned (.tuple #[]) ∧ Only b w w' ∧ ∃ o' bad f, Rdg w' b g cap len a n o' bad f ∧ ((o < 20 ∧ o' = ((o + 1 : Nat) : Int) ∧ bad = 0 ∧ f = 0) ∨ (o = 20 ∧ bad = 26 ∧ f = a)) := by
  by_cases h20 : o = 20
  · subst h20
    refine (ropens_no b g cap len a n 0 w h).mono ?_
    rintro e w' ⟨he, ⟨o', hr⟩, ho⟩
    exact ⟨he, ho, o', 26, a, hr, .inr ⟨rfl, rfl, rfl⟩⟩
  · refine (ropens_ok b g cap len a n 0 o w h (by omega)).mono ?_
    rintro e w' ⟨he, hr, ho⟩
    exact ⟨he, ho, _, 0, 0, hr, .inl ⟨by omega, rfl, rfl, rfl⟩⟩
theorem rnode_u (b g cap len : Nat) (a o bad f : Int) (n : Nat) (w : World) (h : Rdg w b g cap len a n o bad f) (hn : n ≤ 200) (hf : bad = 0 → f = 0) :
    Calls Tryz.prog 140 #[.pointer (some ⟨b, 0, none⟩)] w fun e w' => e = .returned (.tuple #[]) ∧ Only b w w' ∧ ∃ n' bad' f', Rdg w' b g cap len a n' o bad' f' ∧
      ((bad ≠ 0 ∧ bad' = bad ∧ f' = f) ∨ (bad = 0 ∧ n < 200 ∧ n' = ((n + 1 : Nat) : Int) ∧ bad' = 0 ∧ f' = 0) ∨ (bad = 0 ∧ n = 200 ∧ bad' = 27 ∧ f' = a)) := by
  by_cases hb : bad = 0
  · subst hb
    obtain rfl := hf rfl
    by_cases h200 : n = 200
    · subst h200
      refine (rnode_no b g cap len a o 0 w h).mono ?_
      rintro e w' ⟨he, ⟨n', hr⟩, ho⟩
      exact ⟨he, ho, n', 27, a, hr, .inr (.inr ⟨rfl, rfl, rfl, rfl⟩)⟩
    · refine (rnode_ok b g cap len a o 0 n w h (by omega)).mono ?_
      rintro e w' ⟨he, hr, ho⟩
      exact ⟨he, ho, _, 0, 0, hr, .inr (.inl ⟨rfl, by omega, rfl, rfl, rfl⟩)⟩
  · refine (rnode_bad b g cap len a n o bad f hb w h).mono ?_
    rintro e w' ⟨he, ⟨n', hr⟩, ho⟩
    exact ⟨he, ho, n', bad, f, hr, .inl ⟨hb, rfl, rfl⟩⟩
theorem rtake_u (b g cap : Nat) (ts : List TA) (s : ByteArray) (a n o bad f : Int) (w : World) (h : Rdg w b g cap ts.length a n o bad f) (ht : TsAt w g ts) (hn : ts.length ≤ 8001) (hb : bad = 0 → f = 0 ∧ ∃ k : Nat, a = k ∧ k < ts.length) :
    Calls Tryz.prog 210 #[.pointer (some ⟨b, 0, none⟩), .string s] w fun e w' => e = .returned (.tuple #[]) ∧ Only b w w' ∧ ∃ a' bad' f', Rdg w' b g cap ts.length a' n o bad' f' ∧
      ((bad ≠ 0 ∧ bad' = bad ∧ f' = f) ∨ (bad = 0 ∧ ∃ k : Nat, a = k ∧ k < ts.length ∧ ((isS ts k s.data.toList = true ∧ a' = ((k + 1 : Nat) : Int) ∧ bad' = 0 ∧ f' = 0) ∨ (isS ts k s.data.toList = false ∧ bad' = 25 ∧ f' = (k : Int))))) := by
  by_cases h0 : bad = 0
  · subst h0
    obtain ⟨rfl, k, rfl, hk⟩ := hb rfl
    cases hs : isS ts k s.data.toList with
    | true =>
      refine (rtake_ok b g cap k n o 0 ts s w h ht hk hn hs).mono ?_
      rintro e w' ⟨he, hr, ho⟩
      exact ⟨he, ho, _, 0, 0, hr, .inr ⟨rfl, k, rfl, hk, .inl ⟨hs, rfl, rfl, rfl⟩⟩⟩
    | false =>
      refine (rtake_no b g cap k n o 0 ts s w h ht hk hn hs).mono ?_
      rintro e w' ⟨he, hr, ho⟩
      exact ⟨he, ho, _, 25, k, hr, .inr ⟨rfl, k, rfl, hk, .inr ⟨hs, rfl, rfl⟩⟩⟩
  · refine (rtake_bad b g cap ts.length a n o bad f h0 s w h).mono ?_
    rintro e w' ⟨he, rfl⟩
    exact ⟨he, Only.refl _ _, a, bad, f, h, .inl ⟨h0, rfl, rfl⟩⟩
end Go.Proofs.YtlmmfhbdebfgkaaGreatDoor.Ex
namespace Go.Proofs.YtlmmfhbdebfgkaaGreatDoor.Ex
open Go.RowKit
open Lx
theorem clR_done (rec : St → R) (ts : List TA) (op : Int) (n : Nat) (xs : List X) (s : St) (hn : 1 ≤ n) (h : n = xs.length) : clR rec ts op n xs s = leaveR ts [41] ⟨op, 0, [], rowF xs⟩ s := by
  unfold clR
  have hne : xs ≠ [] := by intro e; subst e; simp at h; omega
  rw [if_neg hne, h, Nat.sub_self]
  rfl
theorem end_post {b g cap : Nat} {ts : List TA} {w V : World} {FIN : R} {op : Int} {q : Option Addr} {k : Nat} {xs : List X} {s : St} {sign : List UInt8} {a2 n2 bad2 f2 : Int}
    (hfin : leaveR ts sign ⟨op, 0, [], rowF xs⟩ s = FIN) (hk : k = xs.length) (hf : FAt V (w.heap.size ≤ ·) (rowF xs) q) (hr : Rdg V b g cap ts.length a2 n2 ((s.open_ : Int) - 1) bad2 f2) (hn2 : n2 = s.n) (ho : 1 ≤ s.open_)
    (hc : (isS ts s.at_ sign = true ∧ a2 = ((s.at_ + 1 : Nat) : Int) ∧ bad2 = 0 ∧ f2 = 0) ∨ (isS ts s.at_ sign = false ∧ bad2 = 25 ∧ f2 = (s.at_ : Int))) : Post b g cap ts w.heap.size FIN op 0 [] q k V := by
  unfold leaveR at hfin
  rcases hc with ⟨h1, rfl, rfl, rfl⟩ | ⟨h1, rfl, rfl⟩
  · rw [if_pos h1] at hfin
    subst hfin hn2
    refine ⟨rfl, rfl, rfl, by show (rowF xs).len = k; rw [rowF_len, hk], hf, ?_⟩
    have e : (((s.open_ - 1 : Nat)) : Int) = (s.open_ : Int) - 1 := by omega
    show Rdg V b g cap ts.length ((s.at_ + 1 : Nat) : Int) (s.n : Int) ((s.open_ - 1 : Nat) : Int) 0 0
    rw [e]
    exact hr
  · rw [if_neg (by rw [h1]; decide)] at hfin
    subst hfin
    exact ⟨by decide, _, _, _, hr⟩
theorem rcall_no (b g cap : Nat) (ts : List TA) (op : Int) (n : Nat) (s : St) (w : World) (h : Rdg w b g cap ts.length s.at_ s.n s.open_ 0 0) (ht : TsAt w g ts) (hg : g ≠ b) (hs : s.at_ + 1 < ts.length) (hn : ts.length ≤ 8001) (hu : isS ts (s.at_ + 1) [40] = false) :
    Calls Tryz.prog 209 #[.pointer (some ⟨b, 0, none⟩), .int .i64 op, .int .i64 n] w fun e w' => ResA b g cap ts w (.bad 25 (s.at_ + 1)) e w' := by
  have H := Lib.hid h
  have hlt := h.lt
  have hne : ¬ b = w.heap.size := by omega
  have hne2 : ¬ w.heap.size = b := by omega
  have c1 := h.c1
  have fz := h.fz
  have zb : ∀ o j, (w.alloc o).cell? ⟨b, j, none⟩ = w.cell? ⟨b, j, none⟩ := fun o j => Kept.cell (Kept.alloc (ok := fun _ => True) w o) trivial hlt
  have zf : ∀ o j, (w.alloc o).frozen? ⟨b, j, none⟩ = false := fun o j => (h.keep (Kept.alloc (ok := fun _ => True) w o) trivial).fz j
  have hai : (s.at_ : Int) ≤ 8001 := by omega
  have HA := Lib.hid (show (s.at_ : Int) + 1 = ((s.at_ + 1 : Nat) : Int) by omega)
  have HB1 := Lib.hid (((h.set1 ((s.at_ + 1 : Nat) : Int)).keep (Kept.alloc (ok := fun _ => True) _ (.cells #[.int .i64 0, .int .i64 0, .string ⟨#[]⟩, .slice none 0 0] 24)) trivial).keep (Kept.alloc (ok := fun _ => True) _ (.cells #[.int .i64 op, .int .i64 0, .string ⟨#[]⟩, .slice none 0 0] 24)) trivial)
  have HIS := Lib.hid (fun (w1 : World) (k : Rdg w1 b g cap ts.length (s.at_ + 1 : Nat) s.n s.open_ 0 0) (k2 : TsAt w1 g ts) => show Calls Tryz.prog 171 #[.pointer (some ⟨b, 0, none⟩), .string ⟨#[40]⟩] w1 fun e w' => e = .returned (.bool (isS ts (s.at_ + 1) [40])) ∧ Below w1.heap.size w1 w' from ris_any b g cap (s.at_ + 1) s.n s.open_ 0 0 ts ⟨#[40]⟩ w1 k k2 hs hn)
  rw [hu] at HIS
  have HFA := Lib.hid (fun (w1 : World) (k : Rdg w1 b g cap ts.length (s.at_ + 1 : Nat) s.n s.open_ 0 0) => rfail_any b g cap ts.length (s.at_ + 1 : Nat) s.n s.open_ 0 25 w1 k)
  have O1 := ((Only.set b w 1 (.int .i64 ((s.at_ + 1 : Nat) : Int))).alloc (.cells #[.int .i64 0, .int .i64 0, .string ⟨#[]⟩, .slice none 0 0] 24)).alloc (.cells #[.int .i64 op, .int .i64 0, .string ⟨#[]⟩, .slice none 0 0] 24)
  have HT1 := Lib.hid (O1.ts ht hg)
  have HO1 := Lib.hid O1
  have hx := (Bx.new (w.setCell ⟨b, 1, none⟩ (.int .i64 ((s.at_ + 1 : Nat) : Int))) (.int .i64 0) (.int .i64 0) (.string ⟨#[]⟩) (.slice none 0 0)).keep (Kept.alloc (ok := fun _ => True) _ (.cells #[.int .i64 op, .int .i64 0, .string ⟨#[]⟩, .slice none 0 0] 24)) trivial
  rw [set_size] at hx
  have HX1 := Lib.hid hx
  clear h ht hg hs hn hu O1 hx
  go_enter Tryz.func209, Tryz.ntmps209
  go_wp2_with fail
  rw [HA.out]
  refine (HIS.out _ HB1.out HT1.out).mono ?_
  rintro e w2 ⟨rfl, b2⟩
  have HB2 := Lib.hid (HB1.out.below b2)
  have HX2 := Lib.hid (HX1.out.keep (Kept.of_below (ok := fun _ => True) b2) trivial)
  have HO2 := Lib.hid (HO1.out.trans (Only.of_below b2))
  clear b2
  go_wp2_with fail
  refine (HFA.out _ HB2.out).mono ?_
  rintro e w3 ⟨rfl, r3, o3⟩
  have hh := HX2.out.keep o3.kept hne2
  have hO := HO2.out.trans o3
  have HXF := Lib.hid (hh.put (.int .i64 0) (.int .i64 0) (.string ⟨#[]⟩) (.slice none 0 0))
  have HOF := Lib.hid (hO.put w.heap.size (Nat.le_refl _) (.int .i64 0) (.int .i64 0) (.string ⟨#[]⟩) (.slice none 0 0))
  have HRF := Lib.hid (r3.keep (Kept.put (ok := (· ≠ w.heap.size)) _ w.heap.size (.int .i64 0) (.int .i64 0) (.string ⟨#[]⟩) (.slice none 0 0) (by simp)) hne)
  have f5 := hh.fz
  have p0 := hh.c0
  have p1 := hh.c1
  have p2 := hh.c2
  have p3 := hh.c3
  clear hh hO r3 o3
  unfold noX
  go_wp2_with fail
  refine bodyPost_ret (res_expr rfl _ _ w.heap.size _ _ _ _ rfl HXF.out) rfl ?_
  exact ⟨HOF.out, 0, 0, [], none, 0, 0, rfl, by decide, _, _, _, HRF.out⟩
end Go.Proofs.YtlmmfhbdebfgkaaGreatDoor.Ex
