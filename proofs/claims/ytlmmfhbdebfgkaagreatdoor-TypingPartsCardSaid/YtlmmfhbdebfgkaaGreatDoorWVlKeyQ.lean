/-
  VlKey, ExWrA, ExTaken.
-/
import Derived.Test.YtlmmfhbdebfgkaaGreatDoorWVlQuoteQ
import Derived.Test.YtlmmfhbdebfgkaaGreatDoorWTyNodeQ
import Derived.Test.YtlmmfhbdebfgkaaGreatDoorWExRefOp
import Derived.Test.YtlmmfhbdebfgkaaGreatDoorWVaPureQ
set_option linter.unusedVariables false
set_option linter.unusedSimpArgs false
set_option maxRecDepth 100000
set_option maxHeartbeats 3200000
namespace Go.Proofs.YtlmmfhbdebfgkaaGreatDoor.Va
open Go.RowKit
theorem NumsAt.heap {w w' : World} {a : Option Addr} {l : List Int} (h : NumsAt w a l) (e : w'.heap = w.heap) : NumsAt w' a l := fun i hi => by
  obtain ⟨g, off, e1, hc, hl⟩ := h i hi
  exact ⟨g, off, e1, by unfold World.cell? at hc ⊢; rw [e]; exact hc, by rw [e]; exact hl⟩
theorem Tab.heap {w w' : World} (h : Tab w) (b : Below w.heap.size w w') : Tab w' := h.below b
theorem Print_any (v : V) (ok : VIn v) (hr : rightB v = true) (a : Option Addr) (cap : Nat) (w : World) (hx : NumsAt w a v.list) (htab : Tab w) :
    Calls Tryz.prog 66 #[valC v a cap] w fun e w' => e = .returned (.string (S (printV v))) ∧ Below w.heap.size w w' := by
  have hc := right_cases hr
  obtain ⟨k, n, t, l⟩ := v
  have h1 := ok.num
  have h2 := ok.text
  have h3 := ok.list
  have h4 := ok.nums
  simp only at h1 h2 h3 h4 hc hx
  have hB0 := (Below.refl w.heap.size w).alloc (Nat.le_refl _) (boxO k n t l.length a cap)
  have hx1 := hx.below hB0
  have ht1 := htab.below hB0
  have HB0 := Lib.hid hB0
  clear ok hr hx htab hB0
  rcases hc with ⟨rfl, rfl, rfl, rfl⟩ | ⟨rfl, rfl, rfl⟩ | ⟨rfl, hn, rfl, rfl⟩ | ⟨rfl, rfl, rfl⟩ | ⟨rfl, rfl, hnm, rfl⟩ | ⟨rfl, rfl, rfl⟩
  · clear h1 h2 h3 h4 hx1 ht1
    unfold valC
    simp only
    go_enter Tryz.func66, Tryz.ntmps66
    go_wp2_with fail
    go_ret
    exact ⟨ret_s rfl, HB0.out⟩
  · have HF := Lib.hid (formatInt n h1.1 h1.2 _ ht1)
    clear h1 h2 h3 h4 hx1 ht1
    unfold valC
    simp only
    go_enter Tryz.func66, Tryz.ntmps66
    go_wp2_with fail
    refine HF.out.mono ?_
    rintro e w1 ⟨rfl, b1⟩
    have HB1 := Lib.hid (HB0.out.trans (b1.mono (by simp)))
    clear b1
    go_wp2_with fail
    go_ret
    exact ⟨ret_s rfl, HB1.out⟩
  · clear h1 h2 h3 h4 hx1 ht1
    rcases hn with rfl | rfl
    · unfold valC
      simp only
      go_enter Tryz.func66, Tryz.ntmps66
      go_wp2_with fail
      refine (Tryz.strconv_FormatBool false _).mono ?_
      rintro e w1 ⟨rfl, rfl⟩
      go_wp2_with fail
      go_ret
      exact ⟨ret_s rfl, HB0.out⟩
    · unfold valC
      simp only
      go_enter Tryz.func66, Tryz.ntmps66
      go_wp2_with fail
      refine (Tryz.strconv_FormatBool true _).mono ?_
      rintro e w1 ⟨rfl, rfl⟩
      go_wp2_with fail
      go_ret
      exact ⟨ret_s rfl, HB0.out⟩
  · have HQ := Lib.hid (quote_any t (by omega) (w.alloc (boxO 3 0 t ([] : List Int).length a cap)))
    clear h1 h2 h3 h4 hx1 ht1
    unfold valC
    simp only
    go_enter Tryz.func66, Tryz.ntmps66
    go_wp2_with fail
    refine HQ.out.mono ?_
    rintro e w1 ⟨rfl, b1⟩
    have HB1 := Lib.hid (HB0.out.trans (b1.mono (by simp)))
    clear b1
    go_wp2_with fail
    go_ret
    exact ⟨ret_s rfl, HB1.out⟩
  · have hts : (S t).size = t.length := S_size t
    have hadd : ∀ w, (Op.stringOp .add ⟨#[39]⟩ (S t)).run Tryz.prog w = .ok (.string (S (39 :: t))) w := fun w => by
      rw [run_string_add_sum w _ _ (by have : (⟨#[39]⟩ : ByteArray).size = 1 := rfl; omega)]
      show Result.ok (Value.string (S [39] ++ _)) w = _
      rw [S_append]; rfl
    clear h1 h2 h3 h4 hnm hts hx1 ht1
    unfold valC
    simp only
    go_enter Tryz.func66, Tryz.ntmps66
    go_wp2_with fail
    go_ret
    exact ⟨ret_s rfl, HB0.out⟩
  · have HQ := Lib.hid (brackets_any l h3 h4 a cap _ hx1 ht1)
    clear h1 h2 h3 h4 hx1 ht1
    unfold valC
    simp only
    go_enter Tryz.func66, Tryz.ntmps66
    go_wp2_with fail
    refine HQ.out.mono ?_
    rintro e w1 ⟨rfl, b1⟩
    have HB1 := Lib.hid (HB0.out.trans (b1.mono (by simp)))
    clear b1
    go_wp2_with fail
    go_ret
    exact ⟨ret_s rfl, HB1.out⟩
end Go.Proofs.YtlmmfhbdebfgkaaGreatDoor.Va
namespace Go.Proofs.YtlmmfhbdebfgkaaGreatDoor.Ex
open Go.RowKit
open Lx
theorem app_s (H : Nat) (v : Value) (n : Nat) (xs : List Value) (w : World) (hown : w.ownsRow H 5 1 v n xs) (s : ByteArray) (h63 : n + s.size ≤ 140737488355328) (hH : H ≤ w.heap.size) :
    ∃ v' w', (Builtin.append_ #[67, 9] 67 #[v, .string s]).run Tryz.prog w = .ok v' w' ∧ w'.ownsRow H 5 1 v' (n + s.size) (xs ++ Lib.strCells s) ∧ w.grownBy w' v.ownBlock ∧
      (v'.ownBlock = v.ownBlock ∨ ∃ g, v'.ownBlock = some g ∧ w.heap.size ≤ g) := by
  obtain ⟨i0, hi, hz0, hz1, hz2⟩ := info_parts info_u8
  have hm : n + s.size ≤ maxLen := by unfold maxLen; omega
  obtain ⟨v', w', hr, h2, h3, h4⟩ := Lib.run_append_own_string (P := Tryz.prog) w H 67 9 67 5 i0 Tryz.underlying67 Tryz.underlying9 hi hz0 hz1 hz2 v n xs hown s hm h63 hH
  refine ⟨v', w', hr, h2, h3, ?_⟩
  by_cases hs : 0 < s.size
  · obtain ⟨v2, w2, hr2, _, _, h⟩ := Va.app_string H v n xs w (World.ownsRowF_of hown) s hs h63 hH
    rw [hr] at hr2
    obtain ⟨rfl, rfl⟩ : v' = v2 ∧ w' = w2 := by injection hr2 with e1 e2; exact ⟨e1, e2⟩
    exact h
  · rcases (World.ownsRowF_of hown).2 with ⟨rfl, rfl⟩ | ⟨g, cap, cur, fz, rfl, _, hg, hfz, hnc, _, hcs, _⟩
    · rw [h4.2 ⟨rfl, by omega⟩]; exact .inl rfl
    · have hr2 := Lib.run_append_room_stringF (P := Tryz.prog) w 67 9 67 5 i0 Tryz.underlying67 Tryz.underlying9 hi hz1 g n cap cur fz hg (by simpa using hfz) s (by omega) (by rw [hcs]; omega)
      rw [hr] at hr2
      injection hr2 with e1 _
      subst e1
      exact .inl rfl
def Oth (w : World) (b g : Nat) : Prop := g ≠ b ∧ ∀ p v o d, WrB w b p v o d → some g ≠ v.ownBlock
structure Wk (b : Nat) (w w' : World) : Prop where
  below : Below b w w'
  block : ∀ g, g < w.heap.size → Oth w b g → w'.heap[g]? = w.heap[g]? ∧ Oth w' b g
theorem WrB.same {w : World} {b : Nat} {p v p' v' : Value} {o d o' d' : Int} (h : WrB w b p v o d) (k : WrB w b p' v' o' d') : v = v' := by
  have e := Option.some.inj (h.c1.symm.trans k.c1)
  exact e
theorem Wk.refl (b : Nat) (w : World) : Wk b w w := ⟨Below.refl b w, fun _ _ h => ⟨rfl, h⟩⟩
theorem Wk.trans {b : Nat} {x y z : World} (h : Wk b x y) (k : Wk b y z) : Wk b x z :=
  ⟨h.below.trans k.below, fun g hg ho => by
    obtain ⟨e1, o1⟩ := h.block g hg ho
    obtain ⟨e2, o2⟩ := k.block g (Nat.lt_of_lt_of_le hg h.below.size) o1
    exact ⟨e2.trans e1, o2⟩⟩
theorem Wk.of_below {b : Nat} {w w' : World} (hb : b < w.heap.size) (h : Below w.heap.size w w') : Wk b w w' :=
  ⟨h.mono (by omega), fun g hg ho => ⟨h.block g hg, ho.1, fun p v o d hw => ho.2 p v o d ((h.block b hb).symm.trans hw)⟩⟩
theorem Wk.alloc {b : Nat} {w w' : World} (h : Wk b w w') (hb : b < w'.heap.size) (o : Obj) : Wk b w (w'.alloc o) := h.trans (Wk.of_below hb ((Below.refl _ _).alloc (Nat.le_refl _) o))
theorem Wk.step {w w' : World} {b : Nat} {p v p' v' : Value} {o d o' d' : Int} (hb : Below b w w') (h : WrB w b p v o d) (k : WrB w' b p' v' o' d')
    (hk : ∀ g, g < w.heap.size → g ≠ b → some g ≠ v.ownBlock → w'.heap[g]? = w.heap[g]?) (hv : v'.ownBlock = v.ownBlock ∨ ∃ g, v'.ownBlock = some g ∧ w.heap.size ≤ g) : Wk b w w' :=
  ⟨hb, fun g hg ho => ⟨hk g hg ho.1 (ho.2 _ _ _ _ h), ho.1, fun p2 v2 o2 d2 h2 => by
    obtain rfl := k.same h2
    rcases hv with e | ⟨g2, e, hl⟩
    · rw [e]; exact ho.2 _ _ _ _ h
    · rw [e]; intro e2; injection e2 with e2; omega⟩⟩
theorem Oth.new {w : World} {b : Nat} {l : List UInt8} {o d : Int} (h : Wr w b l o d) (ob : Obj) : Oth (w.alloc ob) b w.heap.size := by
  obtain ⟨p, v, hw, _, hown⟩ := h.has
  refine ⟨by have := hw.lt; omega, fun p2 v2 o2 d2 h2 => ?_⟩
  have h3 : WrB w b p2 v2 o2 d2 := (((Below.refl w.heap.size w).alloc (Nat.le_refl _) ob).block b hw.lt).symm.trans h2
  obtain rfl := hw.same h3
  intro e
  have := (World.ownsRow.lt hown _ e.symm).2
  omega
theorem Oth.low {w : World} {b g : Nat} {l : List UInt8} {o d : Int} (h : Wr w b l o d) (hg : g < b) : Oth w b g := by
  obtain ⟨p, v, hw, _, hown⟩ := h.has
  refine ⟨by omega, fun p2 v2 o2 d2 h2 => ?_⟩
  obtain rfl := hw.same h2
  intro e
  have := (World.ownsRow.lt hown _ e.symm).1
  omega
theorem FAt.wk {b : Nat} {w w' : World} (k : Wk b w w') {l : F} {p : Option Addr} (h : FAt w (Oth w b) l p) : FAt w' (Oth w' b) l p := by
  have h1 := FAt.mono (ok' := fun g => Oth w b g ∧ g < w.heap.size) (fun g hg ho => ⟨ho, hg⟩) l p h
  have h2 := h1.keep (w' := w') ⟨k.below.size, fun g hg _ => (k.block g hg.2 hg.1).1⟩
  exact FAt.mono (fun g _ hg => (k.block g hg.2 hg.1).2) l p h2
theorem Wr.lt {w : World} {b : Nat} {l : List UInt8} {o d : Int} (h : Wr w b l o d) : b < w.heap.size := by
  obtain ⟨p, v, hw, _⟩ := h.has
  exact hw.lt
theorem Wr.below {w w' : World} {b : Nat} {l : List UInt8} {o d : Int} (h : Wr w b l o d) (k : Below w.heap.size w w') : Wr w' b l o d := by
  obtain ⟨p, v, hw, hp, hown⟩ := h.has
  refine ⟨p, v, (k.block b hw.lt).trans hw, hp, hown.1, ?_⟩
  rcases hown.2 with h2 | ⟨g, cap, cur, rfl, hB, hg, r⟩
  · exact .inl h2
  · exact .inr ⟨g, cap, cur, rfl, hB, (k.block g (Array.getElem?_eq_some_iff.1 hg).1).trans hg, r⟩
theorem Wr.alloc {w : World} {b : Nat} {l : List UInt8} {o d : Int} (h : Wr w b l o d) (ob : Obj) : Wr (w.alloc ob) b l o d := h.below ((Below.refl _ _).alloc (Nat.le_refl _) ob)
theorem wwrite_k (b : Nat) (l s : List UInt8) (o d : Int) (w : World) (h : Wr w b l o d) (hlen : l.length + s.length ≤ 140737488355328) :
    Calls Tryz.prog 38 #[.pointer (some ⟨b, 0, none⟩), .string (S s)] w fun e w' => e = .returned (.tuple #[.int .i64 (s.length : Int), .nilIface]) ∧ Wr w' b (l ++ s) o d ∧ Wk b w w' := by
  obtain ⟨p, v, hb, hp, hown⟩ := h.has
  have hss0 : (S s).size = s.length := S_size s
  have hsc : Lib.strCells (S s) = Lib.byteCells s := by simp [Lib.strCells, Lib.byteCells, S]
  have hlt := hb.lt
  have HC := Lib.hid (wcheck_any b w p v o d hb hp)
  have HOWN := Lib.hid hown
  have HB0 := Lib.hid hb
  clear h hb hp hown
  go_enter Tryz.func38, Tryz.ntmps38
  go_wp2_with fail
  refine HC.out.mono ?_
  rintro e w1 ⟨rfl, hb1, o1, hs1⟩
  have hown1 : w1.ownsRow (b + 1) 5 1 v l.length (Lib.byteCells l) := World.ownsRow.kept (row := some b) HOWN.out o1 (.inr (fun e => by
    have := (World.ownsRow.lt HOWN.out b e).1
    omega))
  obtain ⟨v2, w2, hrun, hown2, hgrow, hv2⟩ := app_s (b + 1) v l.length (Lib.byteCells l) w1 hown1 (S s) (by rw [hss0]; omega) (by omega)
  rw [hsc, hss0] at hown2
  obtain ⟨q2, k2, c2, rfl⟩ : ∃ q k c, v2 = .slice q k c := by
    rcases hown2.2 with ⟨rfl, _⟩ | ⟨g, cap, cur, rfl, _⟩
    · exact ⟨_, _, _, rfl⟩
    · exact ⟨_, _, _, rfl⟩
  have hne : some b ≠ v.ownBlock := fun e => by
    have := (World.ownsRow.lt hown1 b e.symm).1
    omega
  have hb2 : WrB w2 b (.pointer (some ⟨b, 0, none⟩)) v o d := (hgrow.block b (by omega) hne).trans hb1
  have c1 := hb1.c1
  have d1 := hb2.c1
  have f1 := hb2.fz 1
  have hsz2 := hgrow.size
  have hb3 := hb2.set1 (.slice q2 k2 c2)
  have hne2 : (Value.slice q2 k2 c2).ownBlock = none ∨ (Value.slice q2 k2 c2).ownBlock ≠ some b := .inr (fun e => by
    have := (World.ownsRow.lt hown2 b e).1
    omega)
  have hown3 := World.ownsRow.kept (row := some b) hown2 (Only.set b w2 1 (.slice q2 k2 c2)) hne2
  have HF := Lib.hid (show Wr (w2.setCell ⟨b, 1, none⟩ (.slice q2 k2 c2)) b (l ++ s) o d from ⟨_, _, hb3, .inr rfl, by rw [List.length_append, Lib.byteCells_append]; exact hown3⟩)
  have hbel1 : Below b w w1 := (Only.below (Below.refl b w) o1 (by omega) (Nat.le_refl _))
  have hbel : Below b w (w2.setCell ⟨b, 1, none⟩ (.slice q2 k2 c2)) := (hbel1.grown hgrow (by omega) (fun k hk => by have := (World.ownsRow.lt hown1 k hk).1; omega)).setCell (p := ⟨b, 1, none⟩) (Nat.le_refl _) _
  have HWK := Lib.hid (Wk.step hbel HB0.out hb3 (fun g hg hgb hgv => by
      refine (heap_setCell_other w2 ⟨b, 1, none⟩ g _ (fun e => hgb (by simpa using e))).trans ?_
      refine (hgrow.block g (by omega) hgv).trans ?_
      exact o1.block g hg (by simpa using hgb)) (by
      rcases hv2 with e | ⟨g, e, hg⟩
      · exact .inl e
      · exact .inr ⟨g, e, by omega⟩))
  have HRUN := Lib.hid hrun
  clear hown1 hown2 hown3 hgrow hbel hbel1 hrun hb1 hb2 hb3 o1 hne hne2 hsc hv2
  go_wp2_with (at_builtin; refine wpList_apx rfl _ _ _ _ rfl rfl rfl _ _ HRUN.out ?_)
  go_wp2_with fail
  go_ret2
  exact ⟨rfl, HF.out, HWK.out⟩
end Go.Proofs.YtlmmfhbdebfgkaaGreatDoor.Ex
namespace Go.Proofs.YtlmmfhbdebfgkaaGreatDoor.Ex
open Go.RowKit
open Lx
theorem taken_true (w : World) : Calls Tryz.prog 20 #[.string (S [116, 114, 117, 101])] w fun e w' => e = .returned (.bool true) ∧ w = w' := by
  have q_true : ((S [116, 114, 117, 101]).toList == ([116, 114, 117, 101] : List UInt8)) = true := by rw [eqB]; rfl
  have q_false : ((S [116, 114, 117, 101]).toList == ([102, 97, 108, 115, 101] : List UInt8)) = false := by rw [eqB]; rfl
  have q_msg : ((S [116, 114, 117, 101]).toList == ([109, 115, 103] : List UInt8)) = false := by rw [eqB]; rfl
  have q_len : ((S [116, 114, 117, 101]).toList == ([108, 101, 110] : List UInt8)) = false := by rw [eqB]; rfl
  have q_at : ((S [116, 114, 117, 101]).toList == ([97, 116] : List UInt8)) = false := by rw [eqB]; rfl
  have q_push : ((S [116, 114, 117, 101]).toList == ([112, 117, 115, 104] : List UInt8)) = false := by rw [eqB]; rfl
  go_enter Tryz.func20, Tryz.ntmps20
  go_wp2_with fail
  go_ret
  exact ⟨rfl, rfl⟩
theorem taken_false (w : World) : Calls Tryz.prog 20 #[.string (S [102, 97, 108, 115, 101])] w fun e w' => e = .returned (.bool true) ∧ w = w' := by
  have q_true : ((S [102, 97, 108, 115, 101]).toList == ([116, 114, 117, 101] : List UInt8)) = false := by rw [eqB]; rfl
  have q_false : ((S [102, 97, 108, 115, 101]).toList == ([102, 97, 108, 115, 101] : List UInt8)) = true := by rw [eqB]; rfl
  have q_msg : ((S [102, 97, 108, 115, 101]).toList == ([109, 115, 103] : List UInt8)) = false := by rw [eqB]; rfl
  have q_len : ((S [102, 97, 108, 115, 101]).toList == ([108, 101, 110] : List UInt8)) = false := by rw [eqB]; rfl
  have q_at : ((S [102, 97, 108, 115, 101]).toList == ([97, 116] : List UInt8)) = false := by rw [eqB]; rfl
  have q_push : ((S [102, 97, 108, 115, 101]).toList == ([112, 117, 115, 104] : List UInt8)) = false := by rw [eqB]; rfl
  go_enter Tryz.func20, Tryz.ntmps20
  go_wp2_with fail
  go_ret
  exact ⟨rfl, rfl⟩
theorem taken_msg (w : World) : Calls Tryz.prog 20 #[.string (S [109, 115, 103])] w fun e w' => e = .returned (.bool true) ∧ w = w' := by
  have q_true : ((S [109, 115, 103]).toList == ([116, 114, 117, 101] : List UInt8)) = false := by rw [eqB]; rfl
  have q_false : ((S [109, 115, 103]).toList == ([102, 97, 108, 115, 101] : List UInt8)) = false := by rw [eqB]; rfl
  have q_msg : ((S [109, 115, 103]).toList == ([109, 115, 103] : List UInt8)) = true := by rw [eqB]; rfl
  have q_len : ((S [109, 115, 103]).toList == ([108, 101, 110] : List UInt8)) = false := by rw [eqB]; rfl
  have q_at : ((S [109, 115, 103]).toList == ([97, 116] : List UInt8)) = false := by rw [eqB]; rfl
  have q_push : ((S [109, 115, 103]).toList == ([112, 117, 115, 104] : List UInt8)) = false := by rw [eqB]; rfl
  go_enter Tryz.func20, Tryz.ntmps20
  go_wp2_with fail
  go_ret
  exact ⟨rfl, rfl⟩
theorem taken_len (w : World) : Calls Tryz.prog 20 #[.string (S [108, 101, 110])] w fun e w' => e = .returned (.bool true) ∧ w = w' := by
  have q_true : ((S [108, 101, 110]).toList == ([116, 114, 117, 101] : List UInt8)) = false := by rw [eqB]; rfl
  have q_false : ((S [108, 101, 110]).toList == ([102, 97, 108, 115, 101] : List UInt8)) = false := by rw [eqB]; rfl
  have q_msg : ((S [108, 101, 110]).toList == ([109, 115, 103] : List UInt8)) = false := by rw [eqB]; rfl
  have q_len : ((S [108, 101, 110]).toList == ([108, 101, 110] : List UInt8)) = true := by rw [eqB]; rfl
  have q_at : ((S [108, 101, 110]).toList == ([97, 116] : List UInt8)) = false := by rw [eqB]; rfl
  have q_push : ((S [108, 101, 110]).toList == ([112, 117, 115, 104] : List UInt8)) = false := by rw [eqB]; rfl
  go_enter Tryz.func20, Tryz.ntmps20
  go_wp2_with fail
  go_ret
  exact ⟨rfl, rfl⟩
theorem taken_at (w : World) : Calls Tryz.prog 20 #[.string (S [97, 116])] w fun e w' => e = .returned (.bool true) ∧ w = w' := by
  have q_true : ((S [97, 116]).toList == ([116, 114, 117, 101] : List UInt8)) = false := by rw [eqB]; rfl
  have q_false : ((S [97, 116]).toList == ([102, 97, 108, 115, 101] : List UInt8)) = false := by rw [eqB]; rfl
  have q_msg : ((S [97, 116]).toList == ([109, 115, 103] : List UInt8)) = false := by rw [eqB]; rfl
  have q_len : ((S [97, 116]).toList == ([108, 101, 110] : List UInt8)) = false := by rw [eqB]; rfl
  have q_at : ((S [97, 116]).toList == ([97, 116] : List UInt8)) = true := by rw [eqB]; rfl
  have q_push : ((S [97, 116]).toList == ([112, 117, 115, 104] : List UInt8)) = false := by rw [eqB]; rfl
  go_enter Tryz.func20, Tryz.ntmps20
  go_wp2_with fail
  go_ret
  exact ⟨rfl, rfl⟩
theorem taken_push (w : World) : Calls Tryz.prog 20 #[.string (S [112, 117, 115, 104])] w fun e w' => e = .returned (.bool true) ∧ w = w' := by
  have q_true : ((S [112, 117, 115, 104]).toList == ([116, 114, 117, 101] : List UInt8)) = false := by rw [eqB]; rfl
  have q_false : ((S [112, 117, 115, 104]).toList == ([102, 97, 108, 115, 101] : List UInt8)) = false := by rw [eqB]; rfl
  have q_msg : ((S [112, 117, 115, 104]).toList == ([109, 115, 103] : List UInt8)) = false := by rw [eqB]; rfl
  have q_len : ((S [112, 117, 115, 104]).toList == ([108, 101, 110] : List UInt8)) = false := by rw [eqB]; rfl
  have q_at : ((S [112, 117, 115, 104]).toList == ([97, 116] : List UInt8)) = false := by rw [eqB]; rfl
  have q_push : ((S [112, 117, 115, 104]).toList == ([112, 117, 115, 104] : List UInt8)) = true := by rw [eqB]; rfl
  go_enter Tryz.func20, Tryz.ntmps20
  go_wp2_with fail
  go_ret
  exact ⟨rfl, rfl⟩
theorem taken_no (x : List UInt8) (n_true : x ≠ wTrue) (n_false : x ≠ wFalse) (n_msg : x ≠ wMsg) (n_len : x ≠ wLen) (n_at : x ≠ wAt) (n_push : x ≠ wPush) (w : World) : Calls Tryz.prog 20 #[.string (S x)] w fun e w' => e = .returned (.bool false) ∧ w = w' := by
  have q_true : ((S x).toList == ([116, 114, 117, 101] : List UInt8)) = false := by rw [eqB]; simpa using (show x ≠ [116, 114, 117, 101] from n_true)
  have q_false : ((S x).toList == ([102, 97, 108, 115, 101] : List UInt8)) = false := by rw [eqB]; simpa using (show x ≠ [102, 97, 108, 115, 101] from n_false)
  have q_msg : ((S x).toList == ([109, 115, 103] : List UInt8)) = false := by rw [eqB]; simpa using (show x ≠ [109, 115, 103] from n_msg)
  have q_len : ((S x).toList == ([108, 101, 110] : List UInt8)) = false := by rw [eqB]; simpa using (show x ≠ [108, 101, 110] from n_len)
  have q_at : ((S x).toList == ([97, 116] : List UInt8)) = false := by rw [eqB]; simpa using (show x ≠ [97, 116] from n_at)
  have q_push : ((S x).toList == ([112, 117, 115, 104] : List UInt8)) = false := by rw [eqB]; simpa using (show x ≠ [112, 117, 115, 104] from n_push)
  go_enter Tryz.func20, Tryz.ntmps20
  go_wp2_with fail
  go_ret
  exact ⟨rfl, rfl⟩
theorem taken_any (x : List UInt8) (w : World) : Calls Tryz.prog 20 #[.string (S x)] w fun e w' => e = .returned (.bool (takenB x)) ∧ w = w' := by
  by_cases n_true : x = wTrue
  · subst n_true
    exact taken_true w
  by_cases n_false : x = wFalse
  · subst n_false
    exact taken_false w
  by_cases n_msg : x = wMsg
  · subst n_msg
    exact taken_msg w
  by_cases n_len : x = wLen
  · subst n_len
    exact taken_len w
  by_cases n_at : x = wAt
  · subst n_at
    exact taken_at w
  by_cases n_push : x = wPush
  · subst n_push
    exact taken_push w
  have h : takenB x = false := by
    unfold takenB
    simp [n_true, n_false, n_msg, n_len, n_at, n_push]
  rw [h]
  exact taken_no x n_true n_false n_msg n_len n_at n_push w
end Go.Proofs.YtlmmfhbdebfgkaaGreatDoor.Ex
