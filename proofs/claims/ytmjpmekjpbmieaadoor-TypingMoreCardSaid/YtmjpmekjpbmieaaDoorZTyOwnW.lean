/-
  TypingOwn, walked.
-/
import Derived.Test.YtmjpmekjpbmieaaDoorZTyAwake
import Derived.Test.YtmjpmekjpbmieaaDoorZTzJ
import Derived.Test.YtmjpmekjpbmieaaDoorZExCkB
import Derived.Deep.DeepCutAuto
namespace Go.Proofs.YtmjpmekjpbmieaaDoor.Ty
open Go.RowKit
open Ex Lx
set_option linter.unusedVariables false

/-- Names as a row, attributes as a row, that a call has made. -/
def StP (w : World) (l : List (List UInt8)) (e : Ending) (w' : World) : Prop := ∃ q c, e = .returned (.slice q l.length c) ∧ StrsAt w' q l ∧ Below w.heap.size w w'
def AtP (w : World) (l : List AttrP) (e : Ending) (w' : World) : Prop := ∃ q c, e = .returned (.slice q l.length c) ∧ AttrsAt w' q l ∧ Below w.heap.size w w'
theorem names_nil (op : Int) (t : T) (hf : t.row.fits) (hn : (namesT op t).length ≤ 100000) (p : Option Addr) (c : Nat) (w : World) (hfa : FAt w (fun _ => True) t.args p) :
    Calls Tryd.prog 10 #[.agg #[.int .i64 t.op, .int .i64 t.num, .string (S t.text), .slice p t.args.len c], .int .i64 op, .slice none 0 0] w (StP w (namesT op t)) :=
  (names_any op t hf w.heap.size [] none 0 p c w (Nat.le_refl _) (World.ownsRow_nil _ _ _ _) (by simpa using hn) (FAt.mono (fun g hg _ => hg) _ _ hfa)).mono fun e w' h => by
    obtain ⟨q, cap, e1, e2, e3⟩ := h
    rw [List.nil_append] at e1 e2
    exact ⟨q, cap, e1, StrsAt.of_own e2, e3⟩
theorem only_row (l : List AttrP) (ns : List (List UInt8)) (p q : Option Addr) (c cq : Nat) (w : World) (hl : AttrsAt w p l) (hq : StrsAt w q ns) (h1 : l.length ≤ 50) (h2 : ns.length ≤ 100000) :
    Calls Tryd.prog 9 #[.slice p l.length c, .slice q ns.length cq] w (AtP w (only l ns)) :=
  (only_any l ns p q c cq w hl hq h1 h2).mono fun e w' h => by
    obtain ⟨q, cap, e1, e2, e3⟩ := h
    exact ⟨q, cap, e1, AttrsAt.of_own e2, e3⟩
theorem only_len (l : List AttrP) (ns : List (List UInt8)) : (only l ns).length ≤ l.length := List.length_filter_le _ _
theorem only_mem (l : List AttrP) (ns : List (List UInt8)) : ∀ a ∈ only l ns, a ∈ l := fun a h => (List.mem_filter.1 h).1
/-- A law's two arguments, in boxes. -/
def Bxs (w : World) (H : Nat) (a b c : Value) : Prop := w.heap[H]? = some (.cells #[a, b, c] 25 (0, 0))
theorem Bxs.c0 {w : World} {H : Nat} {a b c : Value} (h : Bxs w H a b c) : w.cell? ⟨H, 0, none⟩ = some a := cell_of_row w H 0 _ _ (0, 0) h
theorem Bxs.c1 {w : World} {H : Nat} {a b c : Value} (h : Bxs w H a b c) : w.cell? ⟨H, 1, none⟩ = some b := cell_of_row w H 1 _ _ (0, 0) h
theorem Bxs.c2 {w : World} {H : Nat} {a b c : Value} (h : Bxs w H a b c) : w.cell? ⟨H, 2, none⟩ = some c := cell_of_row w H 2 _ _ (0, 0) h
theorem Bxs.lt {w : World} {H : Nat} {a b c : Value} (h : Bxs w H a b c) : H < w.heap.size := World.block_lt_of_cell? w _ h.c0
theorem Bxs.keep {w w' : World} {H : Nat} {a b c : Value} (h : Bxs w H a b c) (k : Below w.heap.size w w') : Bxs w' H a b c := (k.block H h.lt).trans h

set_option linter.unusedSimpArgs false
set_option maxRecDepth 100000 in
set_option maxHeartbeats 16000000 in
theorem TypingOwn_walk (s : Sc) (pe pa pf : Option Addr) (ce ca cf : Nat) (t : T) (p : Option Addr) (c : Nat) (w : World) (hs : ScAt w pe pa pf s) (hf : ScFit s) (hfa : FAt w (fun _ => True) t.args p) (hfit : t.row.fits) (hnums : t.row.nums) (htab : Va.Tab w) (hC : ConsAt w) :
    Calls Tryd.prog 3 #[.agg #[.slice pe s.enums.length ce, .slice pa s.attrs.length ca, .slice pf s.fields.length cf], .agg #[.int .i64 t.op, .int .i64 t.num, .string (S t.text), .slice p t.args.len c]] w fun e w' => e = .returned (.bool true) ∧ Below w.heap.size w w' := by
  have hb1 := ((Below.refl w.heap.size w).alloc (Nat.le_refl _) (.cells #[.slice pe s.enums.length ce, .slice pa s.attrs.length ca, .slice pf s.fields.length cf] 25)).alloc (by simp) (.cells #[.int .i64 t.op, .int .i64 t.num, .string (S t.text), .slice p t.args.len c] 28)
  obtain ⟨W1, hW1⟩ : ∃ W1, W1 = (w.alloc (.cells #[.slice pe s.enums.length ce, .slice pa s.attrs.length ca, .slice pf s.fields.length cf] 25)).alloc (.cells #[.int .i64 t.op, .int .i64 t.num, .string (S t.text), .slice p t.args.len c] 28) := ⟨_, rfl⟩
  have hbs : Bxs W1 w.heap.size (.slice pe s.enums.length ce) (.slice pa s.attrs.length ca) (.slice pf s.fields.length cf) := by
    rw [hW1]
    exact (((Below.refl _ _).alloc (Nat.le_refl _) _).block _ (by simp)).trans (heap_alloc_new w _)
  have hbe : Bx W1 (w.heap.size + 1) (.int .i64 t.op) (.int .i64 t.num) (.string (S t.text)) (.slice p t.args.len c) := by rw [hW1]; exact new_box _ _ _ _ (by simp)
  rw [← hW1] at hb1
  have htab1 := htab.below hb1
  have hC1 := hC.keep (Kept.of_below (ok := fun _ => True) hb1) trivial
  have hs1 := hs.later hb1
  have hfa1 := hfa.keep (Kept.of_below hb1)
  have AW := Lib.hid (fun wr (k : Below W1.heap.size W1 wr) => awake_any wr (htab1.below k) (hC1.keep (Kept.of_below (ok := fun _ => True) k) trivial))
  have CK := Lib.hid (fun wr (k : Below W1.heap.size W1 wr) => rck_any t hfit 0 p c wr (by omega) (hfa1.keep (Kept.of_below k)))
  have SM := Lib.hid (fun wr (k : Below W1.heap.size W1 wr) => small_any s pe pa pf ce ca cf wr (hs1.later k).enums hf.enums hf.attrs hf.fields hf.syms)
  have OF := Lib.hid (fun wr (k : Below W1.heap.size W1 wr) => of_any s pe pa pf ce ca cf hf t hfit hnums p c wr (hs1.later k) (hfa1.keep (Kept.of_below k)) (htab1.below k) (hC1.keep (Kept.of_below (ok := fun _ => True) k) trivial))
  have NM := Lib.hid (fun (op : Int) (hn : (namesT op t).length ≤ 100000) wr (k : Below W1.heap.size W1 wr) => names_nil op t hfit hn p c wr (hfa1.keep (Kept.of_below k)))
  have BS := Lib.hid (fun wr (k : Below W1.heap.size W1 wr) => hbs.keep k)
  have BE := Lib.hid (fun wr (k : Below W1.heap.size W1 wr) => hbe.keep (Kept.of_below (ok := fun _ => True) k) trivial)
  have FIN := Lib.hid (fun wr (k : Below W1.heap.size W1 wr) => hb1.trans (k.mono hb1.size))
  have OA := Lib.hid (fun (ha : s.attrs.length ≤ 50) wr (k : Below W1.heap.size W1 wr) (q : Option Addr) (cq : Nat) (ns : List (List UInt8)) (hn : ns.length ≤ 100000) (h : StrsAt wr q ns) => only_row s.attrs ns pa q ca cq wr (hs1.later k).attrs h ha hn)
  have OFd := Lib.hid (fun (ha : s.fields.length ≤ 50) wr (k : Below W1.heap.size W1 wr) (q : Option Addr) (cq : Nat) (ns : List (List UInt8)) (hn : ns.length ≤ 100000) (h : StrsAt wr q ns) => only_row s.fields ns pf q cf cq wr (hs1.later k).fields h ha hn)
  have OF2 := Lib.hid (fun (na nf : List (List UInt8)) wr (k : Below W1.heap.size W1 wr) (q6 q7 : Option Addr) (c6 c7 : Nat) (h6 : AttrsAt wr q6 (only s.attrs na)) (h7 : AttrsAt wr q7 (only s.fields nf)) => show Calls Tryd.prog 8 #[.slice pe s.enums.length ce, .slice q6 (only s.attrs na).length c6, .slice q7 (only s.fields nf).length c7, .agg #[.int .i64 t.op, .int .i64 t.num, .string (S t.text), .slice p t.args.len c]] wr (fun e w' => e = retT (ofM (s.only na nf) t) ∧ Below wr.heap.size wr w') from of_any (s.only na nf) pe q6 q7 ce c6 c7
    ⟨hf.enums, Nat.le_trans (only_len _ _) hf.attrs, Nat.le_trans (only_len _ _) hf.fields, hf.syms, fun a h => hf.ae a (only_mem _ _ a h), fun a h => hf.fe a (only_mem _ _ a h)⟩ t hfit hnums p c wr ⟨(hs1.later k).enums, h6, h7⟩ (hfa1.keep (Kept.of_below k)) (htab1.below k) (hC1.keep (Kept.of_below (ok := fun _ => True) k) trivial))
  have EQ := Lib.hid (of_only s t)
  have NN := Lib.hid (fun (op : Int) (h : (t.chk 0).1 = 0) => show (namesT op t).length ≤ 100000 from by
    have h1 := names_nodes op t.row
    have h2 := (okF_of_chk t.row 0 hnums h).2
    have h3 := chkF_count t.row 0 (by omega) h
    have h4 : (namesF op t.row) = namesT op t ++ [] := rfl
    rw [h4, List.append_nil] at h1
    omega)
  have SL := Lib.hid (fun (h : smallS s = true) => (small_enums h).2.2)
  have HW1 := Lib.hid hW1
  have HR1 := Lib.hid (Below.refl W1.heap.size W1)
  clear hs hf hfa hfit hnums htab hC hb1 hbs hbe htab1 hC1 hs1 hfa1 hW1
  go_enter Tryd.func3, Tryd.ntmps3
  go_wp2_with fail
  rw [← HW1.out]
  refine (AW.out W1 HR1.out).mono ?_
  rintro e w2 ⟨rfl, b2⟩
  have hbe2 := BE.out w2 b2
  have p0 := hbe2.c0
  have p1 := hbe2.c1
  have p2 := hbe2.c2
  have p3 := hbe2.c3
  have B2 := Lib.hid b2
  have CK2 := CK.out w2 b2
  clear b2 hbe2
  generalize hck : t.chk 0 = ck at *
  obtain ⟨bad, cnt⟩ := ck
  have HCK := Lib.hid CK2
  clear CK2
  simp only at HCK NN
  go_wp2_with fail
  refine HCK.out.mono ?_
  rintro e w3 ⟨rfl, b3⟩
  have B3 := Lib.hid (B2.out.trans (b3.mono B2.out.size))
  clear b3 p0 p1 p2 p3
  by_cases hbad : bad = 0
  · subst hbad
    have hn6 := NN.out 6 rfl
    have hn7 := NN.out 7 rfl
    have hbs3 := BS.out w3 B3.out
    have q0 := hbs3.c0
    have q1 := hbs3.c1
    have q2 := hbs3.c2
    have SM3 := Lib.hid (SM.out w3 B3.out)
    clear hbs3
    go_wp2_with fail
    refine SM3.out.mono ?_
    rintro e w4 ⟨rfl, b4⟩
    have B4 := Lib.hid (B3.out.trans (b4.mono B3.out.size))
    clear b4 q0 q1 q2
    cases hsm : smallS s with
    | false =>
      have AW4 := Lib.hid (AW.out w4 B4.out)
      go_wp2_with fail
      refine AW4.out.mono ?_
      rintro e w5 ⟨rfl, b5⟩
      have B5 := Lib.hid (B4.out.trans (b5.mono B4.out.size))
      clear b5
      go_wp2_with fail
      try simp only [Exit.inBlock, Exit.then]
      go_ret
      exact ⟨rfl, FIN.out _ B5.out⟩
    | true =>
      obtain ⟨hla, hlf⟩ := SL.out hsm
      have hbs4 := BS.out w4 B4.out
      have hbe4 := BE.out w4 B4.out
      have q0 := hbs4.c0
      have q1 := hbs4.c1
      have q2 := hbs4.c2
      have p0 := hbe4.c0
      have p1 := hbe4.c1
      have p2 := hbe4.c2
      have p3 := hbe4.c3
      have OF4 := OF.out w4 B4.out
      have OFB := Lib.hid (OF2.out (namesT 6 t) (namesT 7 t))
      have EQ2 := EQ.out
      rw [EQ2] at OFB
      clear hbs4 hbe4 EQ EQ2 OF2 hsm
      generalize ofM s t = xx at *
      obtain ⟨⟨xk, xe, xl⟩, er⟩ := xx
      unfold retT at OF4 OFB
      simp only at OF4 OFB
      have OF5 := Lib.hid OF4
      clear OF4
      go_wp2_with fail
      refine OF5.out.mono ?_
      rintro e w5 ⟨rfl, b5⟩
      clear q0 q1 q2 p0 p1 p2 p3
      go_upto_region 7 with fail
      have ba5 := b5.trans (((Below.refl w5.heap.size w5).alloc (Nat.le_refl _) (.cells #[.int .i64 xk, .string (S xe), .string (S xl)] 33)).mono b5.size)
      have hb6 := B4.out.trans (ba5.mono B4.out.size)
      have htb := TB.new w5 (.int .i64 xk) (.string (S xe)) (.string (S xl)) _ rfl
      obtain ⟨W6, hW6⟩ : ∃ W6, W6 = w5.alloc (.cells #[.int .i64 xk, .string (S xe), .string (S xl)] 33) := ⟨_, rfl⟩
      rw [← hW6] at hb6 htb ⊢
      have B6 := Lib.hid hb6
      have HTB := Lib.hid htb
      have CV := Lib.hid (fun w' (k : Below W6.heap.size W6 w') => hb6.trans (k.mono hb6.size))
      have R6 := Lib.hid (Below.refl W6.heap.size W6)
      have R6d := Lib.hid (Below.refl W6.heap.size W6).drew
      have HS7 := Lib.hid (fun w' (k6 : Below W6.heap.size W6 w') => have k := hb6.trans (k6.mono hb6.size); show w'.cell? ⟨w.heap.size, 0, none⟩ = some (.slice pe s.enums.length ce) ∧ w'.cell? ⟨w.heap.size, 1, none⟩ = some (.slice pa s.attrs.length ca) ∧ w'.cell? ⟨w.heap.size, 2, none⟩ = some (.slice pf s.fields.length cf) ∧ w'.cell? ⟨w.heap.size + 1, 0, none⟩ = some (.int .i64 t.op) ∧ w'.cell? ⟨w.heap.size + 1, 1, none⟩ = some (.int .i64 t.num) ∧ w'.cell? ⟨w.heap.size + 1, 2, none⟩ = some (.string (S t.text)) ∧ w'.cell? ⟨w.heap.size + 1, 3, none⟩ = some (.slice p t.args.len c) from ⟨(BS.out w' k).c0, (BS.out w' k).c1, (BS.out w' k).c2, (BE.out w' k).c0, (BE.out w' k).c1, (BE.out w' k).c2, (BE.out w' k).c3⟩)
      have hsz6 := hb6.size
      have hszd : W6.drew.heap.size = W6.heap.size := rfl
      have hszw := (BE.out W1 HR1.out).lt
      clear b5 ba5 hb6 htb hW6
      go_cut [9, 10] (fun x9 x10 wx => x10 = .int .i64 er ∧ ∃ H, x9 = .pointer (some ⟨H, 0, none⟩) ∧ TB wx H (.int .i64 xk) (.string (S xe)) (.string (S xl)) ∧ Below W6.heap.size W6 wx)
      case first =>
        go_region_held3 (fun w' => w'.cell? ⟨w.heap.size, 0, none⟩ = some (.slice pe s.enums.length ce) ∧ w'.cell? ⟨w.heap.size, 1, none⟩ = some (.slice pa s.attrs.length ca) ∧ w'.cell? ⟨w.heap.size, 2, none⟩ = some (.slice pf s.fields.length cf) ∧ w'.cell? ⟨w.heap.size + 1, 0, none⟩ = some (.int .i64 t.op) ∧ w'.cell? ⟨w.heap.size + 1, 1, none⟩ = some (.int .i64 t.num) ∧ w'.cell? ⟨w.heap.size + 1, 2, none⟩ = some (.string (S t.text)) ∧ w'.cell? ⟨w.heap.size + 1, 3, none⟩ = some (.slice p t.args.len c))
          (first | with_reducible assumption | exact HS7.out _ R6d.out | exact ⟨by with_reducible assumption, by with_reducible assumption, by with_reducible assumption, by with_reducible assumption, by with_reducible assumption, by with_reducible assumption, by with_reducible assumption⟩ | exact HS7.out _ (Below.alloc (by with_reducible assumption) (Below.size (by with_reducible assumption)) _) | exact HS7.out _ (Below.alloc R6d.out R6d.out.size _) | exact HS7.out _ (Below.alloc R6.out R6.out.size _).drew | exact ⟨(set3_other _ _ _ _ _ _ _ (by omega)).trans (by with_reducible assumption), (set3_other _ _ _ _ _ _ _ (by omega)).trans (by with_reducible assumption), (set3_other _ _ _ _ _ _ _ (by omega)).trans (by with_reducible assumption), (set3_other _ _ _ _ _ _ _ (by omega)).trans (by with_reducible assumption), (set3_other _ _ _ _ _ _ _ (by omega)).trans (by with_reducible assumption), (set3_other _ _ _ _ _ _ _ (by omega)).trans (by with_reducible assumption), (set3_other _ _ _ _ _ _ _ (by omega)).trans (by with_reducible assumption)⟩ | go_keep)
          (first
            | (go_at_call 10; (with_reducible refine (NM.out 6 hn6 _ (CV.out _ (by first | with_reducible assumption | exact R6d.out | exact Below.alloc (by with_reducible assumption) (Below.size (by with_reducible assumption)) _ | exact Below.alloc R6d.out R6d.out.size _ | exact (Below.alloc R6.out R6.out.size _).drew))).mono ?_); rintro e wn ⟨qn, cn, rfl, sn, bn⟩; have bk : Below W6.heap.size W6 wn := Below.trans (by first | with_reducible assumption | exact R6d.out | exact Below.alloc (by with_reducible assumption) (Below.size (by with_reducible assumption)) _ | exact Below.alloc R6d.out R6d.out.size _ | exact (Below.alloc R6.out R6.out.size _).drew) (bn.mono (Below.size (show Below W6.heap.size W6 _ from (by first | with_reducible assumption | exact R6d.out | exact Below.alloc (by with_reducible assumption) (Below.size (by with_reducible assumption)) _ | exact Below.alloc R6d.out R6d.out.size _ | exact (Below.alloc R6.out R6.out.size _).drew)))); obtain ⟨s0, s1, s2, s3, s4, s5, s6⟩ := HS7.out _ bk; (try have st6 := StrsAt.later bn (show StrsAt _ _ (namesT 6 t) from (by first | with_reducible assumption | exact StrsAt.later ((Below.refl _ _).alloc (Nat.le_refl _) _) (by with_reducible assumption)))); (try have st7 := StrsAt.later bn (show StrsAt _ _ (namesT 7 t) from (by first | with_reducible assumption | exact StrsAt.later ((Below.refl _ _).alloc (Nat.le_refl _) _) (by with_reducible assumption)))); (try have at6 := AttrsAt.later bn (show AttrsAt _ _ (only s.attrs (namesT 6 t)) from (by first | with_reducible assumption | exact AttrsAt.later ((Below.refl _ _).alloc (Nat.le_refl _) _) (by with_reducible assumption)))); (try have at7 := AttrsAt.later bn (show AttrsAt _ _ (only s.fields (namesT 7 t)) from (by first | with_reducible assumption | exact AttrsAt.later ((Below.refl _ _).alloc (Nat.le_refl _) _) (by with_reducible assumption)))); have hsz := bk.size; (try have tbn := TB.later (show TB _ _ (.int .i64 0) (.string ⟨#[]⟩) (.string ⟨#[]⟩) from by first | with_reducible assumption | exact TB.new W6.drew _ _ _ W6.heap.size rfl | exact TB.new W6 _ _ _ W6.heap.size rfl | exact TB.new _ _ _ _ _ rfl) bn); (try have tk0 := TB.c0 (show TB wn _ (.int .i64 0) (.string ⟨#[]⟩) (.string ⟨#[]⟩) from by with_reducible assumption)); (try have tk1 := TB.c1 (show TB wn _ (.int .i64 0) (.string ⟨#[]⟩) (.string ⟨#[]⟩) from by with_reducible assumption)); (try have tk2 := TB.c2 (show TB wn _ (.int .i64 0) (.string ⟨#[]⟩) (.string ⟨#[]⟩) from by with_reducible assumption)); (try have tfz := TB.fz (show TB wn _ (.int .i64 0) (.string ⟨#[]⟩) (.string ⟨#[]⟩) from by with_reducible assumption)); clear bn)
            | (go_at_call 10; (with_reducible refine (NM.out 7 hn7 _ (CV.out _ (by first | with_reducible assumption | exact R6d.out | exact Below.alloc (by with_reducible assumption) (Below.size (by with_reducible assumption)) _ | exact Below.alloc R6d.out R6d.out.size _ | exact (Below.alloc R6.out R6.out.size _).drew))).mono ?_); rintro e wn ⟨qn, cn, rfl, sn, bn⟩; have bk : Below W6.heap.size W6 wn := Below.trans (by first | with_reducible assumption | exact R6d.out | exact Below.alloc (by with_reducible assumption) (Below.size (by with_reducible assumption)) _ | exact Below.alloc R6d.out R6d.out.size _ | exact (Below.alloc R6.out R6.out.size _).drew) (bn.mono (Below.size (show Below W6.heap.size W6 _ from (by first | with_reducible assumption | exact R6d.out | exact Below.alloc (by with_reducible assumption) (Below.size (by with_reducible assumption)) _ | exact Below.alloc R6d.out R6d.out.size _ | exact (Below.alloc R6.out R6.out.size _).drew)))); obtain ⟨s0, s1, s2, s3, s4, s5, s6⟩ := HS7.out _ bk; (try have st6 := StrsAt.later bn (show StrsAt _ _ (namesT 6 t) from (by first | with_reducible assumption | exact StrsAt.later ((Below.refl _ _).alloc (Nat.le_refl _) _) (by with_reducible assumption)))); (try have st7 := StrsAt.later bn (show StrsAt _ _ (namesT 7 t) from (by first | with_reducible assumption | exact StrsAt.later ((Below.refl _ _).alloc (Nat.le_refl _) _) (by with_reducible assumption)))); (try have at6 := AttrsAt.later bn (show AttrsAt _ _ (only s.attrs (namesT 6 t)) from (by first | with_reducible assumption | exact AttrsAt.later ((Below.refl _ _).alloc (Nat.le_refl _) _) (by with_reducible assumption)))); (try have at7 := AttrsAt.later bn (show AttrsAt _ _ (only s.fields (namesT 7 t)) from (by first | with_reducible assumption | exact AttrsAt.later ((Below.refl _ _).alloc (Nat.le_refl _) _) (by with_reducible assumption)))); have hsz := bk.size; (try have tbn := TB.later (show TB _ _ (.int .i64 0) (.string ⟨#[]⟩) (.string ⟨#[]⟩) from by first | with_reducible assumption | exact TB.new W6.drew _ _ _ W6.heap.size rfl | exact TB.new W6 _ _ _ W6.heap.size rfl | exact TB.new _ _ _ _ _ rfl) bn); (try have tk0 := TB.c0 (show TB wn _ (.int .i64 0) (.string ⟨#[]⟩) (.string ⟨#[]⟩) from by with_reducible assumption)); (try have tk1 := TB.c1 (show TB wn _ (.int .i64 0) (.string ⟨#[]⟩) (.string ⟨#[]⟩) from by with_reducible assumption)); (try have tk2 := TB.c2 (show TB wn _ (.int .i64 0) (.string ⟨#[]⟩) (.string ⟨#[]⟩) from by with_reducible assumption)); (try have tfz := TB.fz (show TB wn _ (.int .i64 0) (.string ⟨#[]⟩) (.string ⟨#[]⟩) from by with_reducible assumption)); clear bn)
            | (go_at_call 9; (with_reducible refine (OA.out hla _ (CV.out _ (by first | with_reducible assumption | exact R6d.out | exact Below.alloc (by with_reducible assumption) (Below.size (by with_reducible assumption)) _ | exact Below.alloc R6d.out R6d.out.size _ | exact (Below.alloc R6.out R6.out.size _).drew)) _ _ (namesT 6 t) hn6 (by first | with_reducible assumption | exact StrsAt.later ((Below.refl _ _).alloc (Nat.le_refl _) _) (by with_reducible assumption))).mono ?_); rintro e wn ⟨qn, cn, rfl, sn, bn⟩; have bk : Below W6.heap.size W6 wn := Below.trans (by first | with_reducible assumption | exact R6d.out | exact Below.alloc (by with_reducible assumption) (Below.size (by with_reducible assumption)) _ | exact Below.alloc R6d.out R6d.out.size _ | exact (Below.alloc R6.out R6.out.size _).drew) (bn.mono (Below.size (show Below W6.heap.size W6 _ from (by first | with_reducible assumption | exact R6d.out | exact Below.alloc (by with_reducible assumption) (Below.size (by with_reducible assumption)) _ | exact Below.alloc R6d.out R6d.out.size _ | exact (Below.alloc R6.out R6.out.size _).drew)))); obtain ⟨s0, s1, s2, s3, s4, s5, s6⟩ := HS7.out _ bk; (try have st6 := StrsAt.later bn (show StrsAt _ _ (namesT 6 t) from (by first | with_reducible assumption | exact StrsAt.later ((Below.refl _ _).alloc (Nat.le_refl _) _) (by with_reducible assumption)))); (try have st7 := StrsAt.later bn (show StrsAt _ _ (namesT 7 t) from (by first | with_reducible assumption | exact StrsAt.later ((Below.refl _ _).alloc (Nat.le_refl _) _) (by with_reducible assumption)))); (try have at6 := AttrsAt.later bn (show AttrsAt _ _ (only s.attrs (namesT 6 t)) from (by first | with_reducible assumption | exact AttrsAt.later ((Below.refl _ _).alloc (Nat.le_refl _) _) (by with_reducible assumption)))); (try have at7 := AttrsAt.later bn (show AttrsAt _ _ (only s.fields (namesT 7 t)) from (by first | with_reducible assumption | exact AttrsAt.later ((Below.refl _ _).alloc (Nat.le_refl _) _) (by with_reducible assumption)))); have hsz := bk.size; (try have tbn := TB.later (show TB _ _ (.int .i64 0) (.string ⟨#[]⟩) (.string ⟨#[]⟩) from by first | with_reducible assumption | exact TB.new W6.drew _ _ _ W6.heap.size rfl | exact TB.new W6 _ _ _ W6.heap.size rfl | exact TB.new _ _ _ _ _ rfl) bn); (try have tk0 := TB.c0 (show TB wn _ (.int .i64 0) (.string ⟨#[]⟩) (.string ⟨#[]⟩) from by with_reducible assumption)); (try have tk1 := TB.c1 (show TB wn _ (.int .i64 0) (.string ⟨#[]⟩) (.string ⟨#[]⟩) from by with_reducible assumption)); (try have tk2 := TB.c2 (show TB wn _ (.int .i64 0) (.string ⟨#[]⟩) (.string ⟨#[]⟩) from by with_reducible assumption)); (try have tfz := TB.fz (show TB wn _ (.int .i64 0) (.string ⟨#[]⟩) (.string ⟨#[]⟩) from by with_reducible assumption)); clear bn)
            | (go_at_call 9; (with_reducible refine (OFd.out hlf _ (CV.out _ (by first | with_reducible assumption | exact R6d.out | exact Below.alloc (by with_reducible assumption) (Below.size (by with_reducible assumption)) _ | exact Below.alloc R6d.out R6d.out.size _ | exact (Below.alloc R6.out R6.out.size _).drew)) _ _ (namesT 7 t) hn7 (by first | with_reducible assumption | exact StrsAt.later ((Below.refl _ _).alloc (Nat.le_refl _) _) (by with_reducible assumption))).mono ?_); rintro e wn ⟨qn, cn, rfl, sn, bn⟩; have bk : Below W6.heap.size W6 wn := Below.trans (by first | with_reducible assumption | exact R6d.out | exact Below.alloc (by with_reducible assumption) (Below.size (by with_reducible assumption)) _ | exact Below.alloc R6d.out R6d.out.size _ | exact (Below.alloc R6.out R6.out.size _).drew) (bn.mono (Below.size (show Below W6.heap.size W6 _ from (by first | with_reducible assumption | exact R6d.out | exact Below.alloc (by with_reducible assumption) (Below.size (by with_reducible assumption)) _ | exact Below.alloc R6d.out R6d.out.size _ | exact (Below.alloc R6.out R6.out.size _).drew)))); obtain ⟨s0, s1, s2, s3, s4, s5, s6⟩ := HS7.out _ bk; (try have st6 := StrsAt.later bn (show StrsAt _ _ (namesT 6 t) from (by first | with_reducible assumption | exact StrsAt.later ((Below.refl _ _).alloc (Nat.le_refl _) _) (by with_reducible assumption)))); (try have st7 := StrsAt.later bn (show StrsAt _ _ (namesT 7 t) from (by first | with_reducible assumption | exact StrsAt.later ((Below.refl _ _).alloc (Nat.le_refl _) _) (by with_reducible assumption)))); (try have at6 := AttrsAt.later bn (show AttrsAt _ _ (only s.attrs (namesT 6 t)) from (by first | with_reducible assumption | exact AttrsAt.later ((Below.refl _ _).alloc (Nat.le_refl _) _) (by with_reducible assumption)))); (try have at7 := AttrsAt.later bn (show AttrsAt _ _ (only s.fields (namesT 7 t)) from (by first | with_reducible assumption | exact AttrsAt.later ((Below.refl _ _).alloc (Nat.le_refl _) _) (by with_reducible assumption)))); have hsz := bk.size; (try have tbn := TB.later (show TB _ _ (.int .i64 0) (.string ⟨#[]⟩) (.string ⟨#[]⟩) from by first | with_reducible assumption | exact TB.new W6.drew _ _ _ W6.heap.size rfl | exact TB.new W6 _ _ _ W6.heap.size rfl | exact TB.new _ _ _ _ _ rfl) bn); (try have tk0 := TB.c0 (show TB wn _ (.int .i64 0) (.string ⟨#[]⟩) (.string ⟨#[]⟩) from by with_reducible assumption)); (try have tk1 := TB.c1 (show TB wn _ (.int .i64 0) (.string ⟨#[]⟩) (.string ⟨#[]⟩) from by with_reducible assumption)); (try have tk2 := TB.c2 (show TB wn _ (.int .i64 0) (.string ⟨#[]⟩) (.string ⟨#[]⟩) from by with_reducible assumption)); (try have tfz := TB.fz (show TB wn _ (.int .i64 0) (.string ⟨#[]⟩) (.string ⟨#[]⟩) from by with_reducible assumption)); clear bn)
            | (go_at_call 8; (with_reducible refine (OFB.out _ (CV.out _ (by first | with_reducible assumption | exact R6d.out | exact Below.alloc (by with_reducible assumption) (Below.size (by with_reducible assumption)) _ | exact Below.alloc R6d.out R6d.out.size _ | exact (Below.alloc R6.out R6.out.size _).drew)) _ _ _ _ (by first | with_reducible assumption | exact AttrsAt.later ((Below.refl _ _).alloc (Nat.le_refl _) _) (by with_reducible assumption)) (by first | with_reducible assumption | exact AttrsAt.later ((Below.refl _ _).alloc (Nat.le_refl _) _) (by with_reducible assumption))).mono ?_); rintro e wn ⟨rfl, bn⟩; have bk : Below W6.heap.size W6 wn := Below.trans (by first | with_reducible assumption | exact R6d.out | exact Below.alloc (by with_reducible assumption) (Below.size (by with_reducible assumption)) _ | exact Below.alloc R6d.out R6d.out.size _ | exact (Below.alloc R6.out R6.out.size _).drew) (bn.mono (Below.size (show Below W6.heap.size W6 _ from (by first | with_reducible assumption | exact R6d.out | exact Below.alloc (by with_reducible assumption) (Below.size (by with_reducible assumption)) _ | exact Below.alloc R6d.out R6d.out.size _ | exact (Below.alloc R6.out R6.out.size _).drew)))); obtain ⟨s0, s1, s2, s3, s4, s5, s6⟩ := HS7.out _ bk; (try have st6 := StrsAt.later bn (show StrsAt _ _ (namesT 6 t) from (by first | with_reducible assumption | exact StrsAt.later ((Below.refl _ _).alloc (Nat.le_refl _) _) (by with_reducible assumption)))); (try have st7 := StrsAt.later bn (show StrsAt _ _ (namesT 7 t) from (by first | with_reducible assumption | exact StrsAt.later ((Below.refl _ _).alloc (Nat.le_refl _) _) (by with_reducible assumption)))); (try have at6 := AttrsAt.later bn (show AttrsAt _ _ (only s.attrs (namesT 6 t)) from (by first | with_reducible assumption | exact AttrsAt.later ((Below.refl _ _).alloc (Nat.le_refl _) _) (by with_reducible assumption)))); (try have at7 := AttrsAt.later bn (show AttrsAt _ _ (only s.fields (namesT 7 t)) from (by first | with_reducible assumption | exact AttrsAt.later ((Below.refl _ _).alloc (Nat.le_refl _) _) (by with_reducible assumption)))); have hsz := bk.size; (try have tbn := TB.later (show TB _ _ (.int .i64 0) (.string ⟨#[]⟩) (.string ⟨#[]⟩) from by first | with_reducible assumption | exact TB.new W6.drew _ _ _ W6.heap.size rfl | exact TB.new W6 _ _ _ W6.heap.size rfl | exact TB.new _ _ _ _ _ rfl) bn); (try have tk0 := TB.c0 (show TB wn _ (.int .i64 0) (.string ⟨#[]⟩) (.string ⟨#[]⟩) from by with_reducible assumption)); (try have tk1 := TB.c1 (show TB wn _ (.int .i64 0) (.string ⟨#[]⟩) (.string ⟨#[]⟩) from by with_reducible assumption)); (try have tk2 := TB.c2 (show TB wn _ (.int .i64 0) (.string ⟨#[]⟩) (.string ⟨#[]⟩) from by with_reducible assumption)); (try have tfz := TB.fz (show TB wn _ (.int .i64 0) (.string ⟨#[]⟩) (.string ⟨#[]⟩) from by with_reducible assumption)); clear bn))
        all_goals go_wp2_with fail
        all_goals go_meet
        all_goals (refine ⟨rfl, _, rfl, ?_, ?_⟩)
        all_goals (first | exact TB.new _ _ _ _ _ rfl | exact TB.put (a := .int .i64 0) (b := .string ⟨#[]⟩) (c := .string ⟨#[]⟩) (by assumption) _ _ _ | exact Below.alloc (by assumption) (Below.size (by assumption)) _ | exact ((Below.setCell (by assumption) (by first | exact Nat.le_refl _ | (simp; omega) | simp) _).setCell (by first | exact Nat.le_refl _ | (simp; omega) | simp) _).setCell (by first | exact Nat.le_refl _ | (simp; omega) | simp) _)
      case rest =>
        obtain ⟨rfl, H, rfl, htb2, b7⟩ := hcut
        have B7 := Lib.hid (B6.out.trans (b7.mono B6.out.size))
        have htb1 := HTB.out.later b7
        have AW7 := Lib.hid (AW.out _ B7.out)
        have T1 := Lib.hid htb1
        have T2 := Lib.hid htb2
        clear b7 htb1 htb2
        go_wp2_with fail
        refine AW7.out.mono ?_
        rintro e w8 ⟨rfl, b8⟩
        have B8 := Lib.hid (B7.out.trans (b8.mono B7.out.size))
        have h1 := T1.out.later b8
        have h2 := T2.out.later b8
        have q0 := h1.c0
        have q1 := h1.c1
        have q2 := h1.c2
        have p0 := h2.c0
        have p1 := h2.c1
        have p2 := h2.c2
        clear b8 h1 h2
        go_wp2_with fail
        go_ret
        exact ⟨rfl, FIN.out _ B8.out⟩
  · have e1 : ((bad : Int) == 0) = false := by rw [beq_eq_false_iff_ne]; omega
    have e2 : ((bad : Int) != 0) = true := by simp; exact hbad
    have AW3 := Lib.hid (AW.out w3 B3.out)
    go_wp2_with fail
    refine AW3.out.mono ?_
    rintro e w4 ⟨rfl, b4⟩
    have B4 := Lib.hid (B3.out.trans (b4.mono B3.out.size))
    clear b4
    go_wp2_with fail
    try simp only [Exit.inBlock, Exit.then]
    go_ret
    exact ⟨rfl, FIN.out _ B4.out⟩

end Go.Proofs.YtmjpmekjpbmieaaDoor.Ty
