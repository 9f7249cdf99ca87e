/-
  ExRefP.
-/
import Derived.Test.YtlmmfhbdebfgkaaGreatDoorVExRefE
import Derived.Deep.DeepCutAuto
set_option linter.unusedVariables false
set_option linter.unusedSimpArgs false
set_option maxRecDepth 100000
set_option maxHeartbeats 16000000
namespace Go.Proofs.YtlmmfhbdebfgkaaGreatDoor.Ex
open Go.RowKit
open Lx
def Bt (w : World) (H : Nat) (t : TA) : Prop := w.heap[H]? = some (.cells #[.int .i64 t.kind, .string (S t.text), .int .i64 t.num, .int .i64 (t.at_ : Int)] 79 (0, 0))
section
variable {w w' : World} {H : Nat} {t : TA}
theorem Bt.c0 (h : Bt w H t) : w.cell? ⟨H, 0, none⟩ = some (.int .i64 t.kind) := cell_of_row w H 0 _ _ (0, 0) h
theorem Bt.c1 (h : Bt w H t) : w.cell? ⟨H, 1, none⟩ = some (.string (S t.text)) := cell_of_row w H 1 _ _ (0, 0) h
theorem Bt.c2 (h : Bt w H t) : w.cell? ⟨H, 2, none⟩ = some (.int .i64 t.num) := cell_of_row w H 2 _ _ (0, 0) h
theorem Bt.lt (h : Bt w H t) : H < w.heap.size := World.block_lt_of_cell? w _ h.c0
theorem Bt.keep {ok : Nat → Prop} (h : Bt w H t) (k : Kept ok w w') (hH : ok H) : Bt w' H t := (k.block H hH h.lt).trans h
end
structure PrS (b g cap : Nat) (ts : List TA) (s : St) (w W : World) : Prop where
  only : Only b w W
  size : W.heap.size = w.heap.size + 2
  box : Bx W w.heap.size (.int .i64 0) (.int .i64 0) (.string ⟨#[]⟩) (.slice none 0 0)
  tok : Bt W (w.heap.size + 1) (tk ts s.at_)
  rdg : Rdg W b g cap ts.length s.at_ s.n s.open_ 0 0
theorem prS_new {b g cap : Nat} {ts : List TA} {s : St} {w : World} (h : Rdg w b g cap ts.length s.at_ s.n s.open_ 0 0) :
    PrS b g cap ts s w ((w.alloc (.cells #[.int .i64 0, .int .i64 0, .string ⟨#[]⟩, .slice none 0 0] 24)).alloc (.cells #[.int .i64 (tk ts s.at_).kind, .string (S (tk ts s.at_).text), .int .i64 (tk ts s.at_).num, .int .i64 ((tk ts s.at_).at_ : Int)] 79)).drew := by
  have h1 : ((w.alloc (.cells #[.int .i64 0, .int .i64 0, .string ⟨#[]⟩, .slice none 0 0] 24)).alloc (.cells #[.int .i64 (tk ts s.at_).kind, .string (S (tk ts s.at_).text), .int .i64 (tk ts s.at_).num, .int .i64 ((tk ts s.at_).at_ : Int)] 79)).heap[w.heap.size + 1]? = some (.cells #[.int .i64 (tk ts s.at_).kind, .string (S (tk ts s.at_).text), .int .i64 (tk ts s.at_).num, .int .i64 ((tk ts s.at_).at_ : Int)] 79) := heap_alloc2_new w _ _
  exact ⟨(((Only.refl b w).alloc _).alloc _).trans (Only.of_below (Below.refl _ _).drew), by simp, (show Bx ((w.alloc (.cells #[.int .i64 0, .int .i64 0, .string ⟨#[]⟩, .slice none 0 0] 24)).alloc (.cells #[.int .i64 (tk ts s.at_).kind, .string (S (tk ts s.at_).text), .int .i64 (tk ts s.at_).num, .int .i64 ((tk ts s.at_).at_ : Int)] 79)) w.heap.size (.int .i64 0) (.int .i64 0) (.string ⟨#[]⟩) (.slice none 0 0) from Bx.keep (ok := fun _ => True) (Bx.new w _ _ _ _) (Kept.alloc _ _) trivial), h1,
    (show Rdg ((w.alloc (.cells #[.int .i64 0, .int .i64 0, .string ⟨#[]⟩, .slice none 0 0] 24)).alloc (.cells #[.int .i64 (tk ts s.at_).kind, .string (S (tk ts s.at_).text), .int .i64 (tk ts s.at_).num, .int .i64 ((tk ts s.at_).at_ : Int)] 79)) b g cap ts.length s.at_ s.n s.open_ 0 0 from Rdg.keep (ok := fun _ => True) (Rdg.keep (ok := fun _ => True) h (Kept.alloc _ _) trivial) (Kept.alloc _ _) trivial)⟩
def LeafK (t : TA) (op num : Int) (text : List UInt8) : Prop :=
  (t.kind = 2 ∧ op = 1 ∧ t.num = num ∧ text = []) ∨ (t.kind = 3 ∧ op = 2 ∧ num = 0 ∧ t.text = text) ∨ (t.kind = 4 ∧ op = 4 ∧ num = 0 ∧ t.text = text) ∨
  (t.kind = 1 ∧ t.text = wTrue ∧ op = 3 ∧ num = 1 ∧ text = []) ∨ (t.kind = 1 ∧ t.text = wFalse ∧ op = 3 ∧ num = 0 ∧ text = []) ∨
  (t.kind = 1 ∧ (text ≠ wLen ∧ text ≠ wAt ∧ text ≠ wPush ∧ text ≠ wMsg ∧ text ≠ wTrue ∧ text ≠ wFalse) ∧ op = 6 ∧ num = 0 ∧ t.text = text)
theorem leaf_post {b g cap : Nat} {ts : List TA} {s : St} {lo : Nat} {V : World} {op num : Int} {text : List UInt8} {n2 bad2 f2 : Int} (hr : Rdg V b g cap ts.length ((s.at_ : Int) + 1) n2 s.open_ bad2 f2)
    (hc : ((0 : Int) ≠ 0 ∧ bad2 = 0 ∧ f2 = 0) ∨ ((0 : Int) = 0 ∧ s.n < 200 ∧ n2 = ((s.n + 1 : Nat) : Int) ∧ bad2 = 0 ∧ f2 = 0) ∨ ((0 : Int) = 0 ∧ s.n = 200 ∧ bad2 = 27 ∧ f2 = (s.at_ : Int))) : Post b g cap ts lo (leafR op num text s) op num text none 0 V := by
  unfold leafR
  rcases hc with ⟨h0, _⟩ | ⟨_, h1, rfl, rfl, rfl⟩ | ⟨_, h1, rfl, rfl⟩
  · exact absurd rfl h0
  · rw [if_neg (by omega)]
    exact ⟨rfl, rfl, rfl, rfl, trivial, hr⟩
  · rw [if_pos h1]
    exact ⟨by decide, _, _, _, hr⟩
theorem rprim_leaf (b g cap : Nat) (ts : List TA) (s : St) (w : World) (h : Rdg w b g cap ts.length s.at_ s.n s.open_ 0 0) (ht : TsAt w g ts) (hg : g ≠ b) (hs : StOk ts s) (hn : ts.length ≤ 8001) (op num : Int) (text : List UInt8) (hl : LeafK (tk ts s.at_) op num text) :
    Calls Tryz.prog 172 #[.pointer (some ⟨b, 0, none⟩)] w fun e w' => ResA b g cap ts w (leafR op num text s) e w' := by
  have HL := Lib.hid hl
  clear hl
  have HND := Lib.hid (fun (w1 : World) (k : Rdg w1 b g cap ts.length s.at_ s.n s.open_ 0 0) => rnode_u b g cap ts.length s.at_ s.open_ 0 0 s.n w1 k hs.n (fun _ => rfl))
  have H := Lib.hid h
  have HS := Lib.hid hs
  have HT := Lib.hid ht
  have HG := Lib.hid hg
  have HN := Lib.hid hn
  have hlt := h.lt
  have hgl := ht.lt
  have hne : ¬ b = w.heap.size := by omega
  have hne2 : ¬ w.heap.size = b := by omega
  have hne3 : ¬ w.heap.size + 1 = b := by omega
  have hai : (s.at_ : Int) < (ts.length : Int) := by have := hs.at_; omega
  have hni : (ts.length : Int) ≤ 8001 := by omega
  have c0 := h.c0
  have c1 := h.c1
  obtain ⟨t0, t1, t2, t3⟩ := ht.tok hs.at_
  have zb : ∀ o j, (w.alloc o).cell? ⟨b, j, none⟩ = w.cell? ⟨b, j, none⟩ := fun o j => Kept.cell (Kept.alloc (ok := fun _ => True) w o) trivial hlt
  have zg : ∀ o j, (w.alloc o).cell? ⟨g, j, none⟩ = w.cell? ⟨g, j, none⟩ := fun o j => Kept.cell (Kept.alloc (ok := fun _ => True) w o) trivial hgl
  have HPN := Lib.hid (prS_new h)
  clear h ht hs hn hg
  go_enter Tryz.func172, Tryz.ntmps172
  go_upto_region 1 with fail
  go_cut [3] (fun x3 wx => x3 = .pointer (some ⟨w.heap.size + 1, 0, none⟩) ∧ PrS b g cap ts s w wx)
  case first =>
    go_region_with (fail)
    all_goals
      go_wp2_with fail
      go_meet
      exact ⟨rfl, HPN.out⟩
  case rest =>
    obtain ⟨rfl, hP⟩ := hcut
    have HP := Lib.hid hP
    have k0 := hP.tok.c0
    have k1 := hP.tok.c1
    have k2 := hP.tok.c2
    clear hP c0 c1 t0 t1 t2 t3 zb zg HPN
    rcases HL.out with ⟨hk, rfl, hv, rfl⟩ | ⟨hk, rfl, rfl, hv⟩ | ⟨hk, rfl, rfl, hv⟩ | ⟨hk, hv, rfl, rfl, rfl⟩ | ⟨hk, hv, rfl, rfl, rfl⟩ | ⟨hk, ⟨n_len, n_at, n_push, n_msg, n_true, n_false⟩, rfl, rfl, hv⟩
    · rw [hk] at k0
      rw [hv] at k2
      have HK := Lib.hid hk
      have HV := Lib.hid hv
      clear hk hv
      go_wp2_with fail
      refine (HND.out _ HP.out.rdg).mono ?_
      rintro e w2 ⟨rfl, o2, n2, bad2, f2, r2, hc2⟩
      have hb2 := HP.out.box.keep o2.kept hne2
      have ht2 := HP.out.tok.keep o2.kept hne3
      have a1 := r2.c1
      have az := r2.fz
      have p0 := hb2.c0
      have p1 := hb2.c1
      have p2 := hb2.c2
      have p3 := hb2.c3
      have pz := hb2.fz
      have j0 := ht2.c0
      have j1 := ht2.c1
      have j2 := ht2.c2
      rw [HK.out] at j0
      rw [HV.out] at j2
      have HXF := Lib.hid ((hb2.keep (Kept.set (ok := (· ≠ b)) w2 b 1 (.int .i64 ((s.at_ : Int) + 1)) (by simp)) hne2).put (.int .i64 1) (.int .i64 num) (.string ⟨#[]⟩) (.slice none 0 0))
      have HOF := Lib.hid (((HP.out.only.trans o2).set' 1 (.int .i64 ((s.at_ : Int) + 1))).put w.heap.size (Nat.le_refl _) (.int .i64 1) (.int .i64 num) (.string ⟨#[]⟩) (.slice none 0 0))
      have HRF := Lib.hid ((r2.set1 ((s.at_ : Int) + 1)).keep (Kept.put (ok := (· ≠ w.heap.size)) _ w.heap.size (.int .i64 1) (.int .i64 num) (.string ⟨#[]⟩) (.slice none 0 0) (by simp)) hne)
      have HC2 := Lib.hid hc2
      clear hb2 ht2 r2 o2 hc2
      go_wp2_with fail
      refine bodyPost_ret (res_expr rfl _ _ w.heap.size _ _ _ _ rfl HXF.out) rfl ?_
      exact ⟨HOF.out, 1, num, [], none, 0, 0, rfl, leaf_post HRF.out (by simpa using HC2.out)⟩
    · rw [hk] at k0
      rw [hv] at k1
      have HK := Lib.hid hk
      have HV := Lib.hid hv
      clear hk hv
      go_wp2_with fail
      refine (HND.out _ HP.out.rdg).mono ?_
      rintro e w2 ⟨rfl, o2, n2, bad2, f2, r2, hc2⟩
      have hb2 := HP.out.box.keep o2.kept hne2
      have ht2 := HP.out.tok.keep o2.kept hne3
      have a1 := r2.c1
      have az := r2.fz
      have p0 := hb2.c0
      have p1 := hb2.c1
      have p2 := hb2.c2
      have p3 := hb2.c3
      have pz := hb2.fz
      have j0 := ht2.c0
      have j1 := ht2.c1
      have j2 := ht2.c2
      rw [HK.out] at j0
      rw [HV.out] at j1
      have HXF := Lib.hid ((hb2.keep (Kept.set (ok := (· ≠ b)) w2 b 1 (.int .i64 ((s.at_ : Int) + 1)) (by simp)) hne2).put (.int .i64 2) (.int .i64 0) (.string (S text)) (.slice none 0 0))
      have HOF := Lib.hid (((HP.out.only.trans o2).set' 1 (.int .i64 ((s.at_ : Int) + 1))).put w.heap.size (Nat.le_refl _) (.int .i64 2) (.int .i64 0) (.string (S text)) (.slice none 0 0))
      have HRF := Lib.hid ((r2.set1 ((s.at_ : Int) + 1)).keep (Kept.put (ok := (· ≠ w.heap.size)) _ w.heap.size (.int .i64 2) (.int .i64 0) (.string (S text)) (.slice none 0 0) (by simp)) hne)
      have HC2 := Lib.hid hc2
      clear hb2 ht2 r2 o2 hc2
      go_wp2_with fail
      refine bodyPost_ret (res_expr rfl _ _ w.heap.size _ _ _ _ rfl HXF.out) rfl ?_
      exact ⟨HOF.out, 2, 0, text, none, 0, 0, rfl, leaf_post HRF.out (by simpa using HC2.out)⟩
    · rw [hk] at k0
      rw [hv] at k1
      have HK := Lib.hid hk
      have HV := Lib.hid hv
      clear hk hv
      go_wp2_with fail
      refine (HND.out _ HP.out.rdg).mono ?_
      rintro e w2 ⟨rfl, o2, n2, bad2, f2, r2, hc2⟩
      have hb2 := HP.out.box.keep o2.kept hne2
      have ht2 := HP.out.tok.keep o2.kept hne3
      have a1 := r2.c1
      have az := r2.fz
      have p0 := hb2.c0
      have p1 := hb2.c1
      have p2 := hb2.c2
      have p3 := hb2.c3
      have pz := hb2.fz
      have j0 := ht2.c0
      have j1 := ht2.c1
      have j2 := ht2.c2
      rw [HK.out] at j0
      rw [HV.out] at j1
      have HXF := Lib.hid ((hb2.keep (Kept.set (ok := (· ≠ b)) w2 b 1 (.int .i64 ((s.at_ : Int) + 1)) (by simp)) hne2).put (.int .i64 4) (.int .i64 0) (.string (S text)) (.slice none 0 0))
      have HOF := Lib.hid (((HP.out.only.trans o2).set' 1 (.int .i64 ((s.at_ : Int) + 1))).put w.heap.size (Nat.le_refl _) (.int .i64 4) (.int .i64 0) (.string (S text)) (.slice none 0 0))
      have HRF := Lib.hid ((r2.set1 ((s.at_ : Int) + 1)).keep (Kept.put (ok := (· ≠ w.heap.size)) _ w.heap.size (.int .i64 4) (.int .i64 0) (.string (S text)) (.slice none 0 0) (by simp)) hne)
      have HC2 := Lib.hid hc2
      clear hb2 ht2 r2 o2 hc2
      go_wp2_with fail
      refine bodyPost_ret (res_expr rfl _ _ w.heap.size _ _ _ _ rfl HXF.out) rfl ?_
      exact ⟨HOF.out, 4, 0, text, none, 0, 0, rfl, leaf_post HRF.out (by simpa using HC2.out)⟩
    · rw [hk] at k0
      rw [show (tk ts s.at_).text = [116, 114, 117, 101] from hv] at k1
      have HK := Lib.hid hk
      have HV := Lib.hid hv
      clear hk hv
      have q_len : ((S [116, 114, 117, 101]).toList == ([108, 101, 110] : List UInt8)) = false := by rw [eqB]; rfl
      have q_at : ((S [116, 114, 117, 101]).toList == ([97, 116] : List UInt8)) = false := by rw [eqB]; rfl
      have q_push : ((S [116, 114, 117, 101]).toList == ([112, 117, 115, 104] : List UInt8)) = false := by rw [eqB]; rfl
      have q_msg : ((S [116, 114, 117, 101]).toList == ([109, 115, 103] : List UInt8)) = false := by rw [eqB]; rfl
      have q_true : ((S [116, 114, 117, 101]).toList == ([116, 114, 117, 101] : List UInt8)) = true := by rw [eqB]; rfl
      have q_false : ((S [116, 114, 117, 101]).toList == ([102, 97, 108, 115, 101] : List UInt8)) = false := by rw [eqB]; rfl
      go_wp2_with fail
      refine (HND.out _ HP.out.rdg).mono ?_
      rintro e w2 ⟨rfl, o2, n2, bad2, f2, r2, hc2⟩
      have hb2 := HP.out.box.keep o2.kept hne2
      have ht2 := HP.out.tok.keep o2.kept hne3
      have a1 := r2.c1
      have az := r2.fz
      have p0 := hb2.c0
      have p1 := hb2.c1
      have p2 := hb2.c2
      have p3 := hb2.c3
      have pz := hb2.fz
      have j0 := ht2.c0
      have j1 := ht2.c1
      have j2 := ht2.c2
      rw [HK.out] at j0
      rw [show (tk ts s.at_).text = [116, 114, 117, 101] from HV.out] at j1
      have HXF := Lib.hid ((hb2.keep (Kept.set (ok := (· ≠ b)) w2 b 1 (.int .i64 ((s.at_ : Int) + 1)) (by simp)) hne2).put (.int .i64 3) (.int .i64 1) (.string ⟨#[]⟩) (.slice none 0 0))
      have HOF := Lib.hid (((HP.out.only.trans o2).set' 1 (.int .i64 ((s.at_ : Int) + 1))).put w.heap.size (Nat.le_refl _) (.int .i64 3) (.int .i64 1) (.string ⟨#[]⟩) (.slice none 0 0))
      have HRF := Lib.hid ((r2.set1 ((s.at_ : Int) + 1)).keep (Kept.put (ok := (· ≠ w.heap.size)) _ w.heap.size (.int .i64 3) (.int .i64 1) (.string ⟨#[]⟩) (.slice none 0 0) (by simp)) hne)
      have HC2 := Lib.hid hc2
      clear hb2 ht2 r2 o2 hc2
      go_wp2_with fail
      refine bodyPost_ret (res_expr rfl _ _ w.heap.size _ _ _ _ rfl HXF.out) rfl ?_
      exact ⟨HOF.out, 3, 1, [], none, 0, 0, rfl, leaf_post HRF.out (by simpa using HC2.out)⟩
    · rw [hk] at k0
      rw [show (tk ts s.at_).text = [102, 97, 108, 115, 101] from hv] at k1
      have HK := Lib.hid hk
      have HV := Lib.hid hv
      clear hk hv
      have q_len : ((S [102, 97, 108, 115, 101]).toList == ([108, 101, 110] : List UInt8)) = false := by rw [eqB]; rfl
      have q_at : ((S [102, 97, 108, 115, 101]).toList == ([97, 116] : List UInt8)) = false := by rw [eqB]; rfl
      have q_push : ((S [102, 97, 108, 115, 101]).toList == ([112, 117, 115, 104] : List UInt8)) = false := by rw [eqB]; rfl
      have q_msg : ((S [102, 97, 108, 115, 101]).toList == ([109, 115, 103] : List UInt8)) = false := by rw [eqB]; rfl
      have q_true : ((S [102, 97, 108, 115, 101]).toList == ([116, 114, 117, 101] : List UInt8)) = false := by rw [eqB]; rfl
      have q_false : ((S [102, 97, 108, 115, 101]).toList == ([102, 97, 108, 115, 101] : List UInt8)) = true := by rw [eqB]; rfl
      go_wp2_with fail
      refine (HND.out _ HP.out.rdg).mono ?_
      rintro e w2 ⟨rfl, o2, n2, bad2, f2, r2, hc2⟩
      have hb2 := HP.out.box.keep o2.kept hne2
      have ht2 := HP.out.tok.keep o2.kept hne3
      have a1 := r2.c1
      have az := r2.fz
      have p0 := hb2.c0
      have p1 := hb2.c1
      have p2 := hb2.c2
      have p3 := hb2.c3
      have pz := hb2.fz
      have j0 := ht2.c0
      have j1 := ht2.c1
      have j2 := ht2.c2
      rw [HK.out] at j0
      rw [show (tk ts s.at_).text = [102, 97, 108, 115, 101] from HV.out] at j1
      have HXF := Lib.hid ((hb2.keep (Kept.set (ok := (· ≠ b)) w2 b 1 (.int .i64 ((s.at_ : Int) + 1)) (by simp)) hne2).put (.int .i64 3) (.int .i64 0) (.string ⟨#[]⟩) (.slice none 0 0))
      have HOF := Lib.hid (((HP.out.only.trans o2).set' 1 (.int .i64 ((s.at_ : Int) + 1))).put w.heap.size (Nat.le_refl _) (.int .i64 3) (.int .i64 0) (.string ⟨#[]⟩) (.slice none 0 0))
      have HRF := Lib.hid ((r2.set1 ((s.at_ : Int) + 1)).keep (Kept.put (ok := (· ≠ w.heap.size)) _ w.heap.size (.int .i64 3) (.int .i64 0) (.string ⟨#[]⟩) (.slice none 0 0) (by simp)) hne)
      have HC2 := Lib.hid hc2
      clear hb2 ht2 r2 o2 hc2
      go_wp2_with fail
      refine bodyPost_ret (res_expr rfl _ _ w.heap.size _ _ _ _ rfl HXF.out) rfl ?_
      exact ⟨HOF.out, 3, 0, [], none, 0, 0, rfl, leaf_post HRF.out (by simpa using HC2.out)⟩
    · rw [hk] at k0
      rw [hv] at k1
      have HK := Lib.hid hk
      have HV := Lib.hid hv
      clear hk hv
      have q_len : ((S text).toList == ([108, 101, 110] : List UInt8)) = false := by rw [eqB]; simpa using (show text ≠ [108, 101, 110] from n_len)
      have q_at : ((S text).toList == ([97, 116] : List UInt8)) = false := by rw [eqB]; simpa using (show text ≠ [97, 116] from n_at)
      have q_push : ((S text).toList == ([112, 117, 115, 104] : List UInt8)) = false := by rw [eqB]; simpa using (show text ≠ [112, 117, 115, 104] from n_push)
      have q_msg : ((S text).toList == ([109, 115, 103] : List UInt8)) = false := by rw [eqB]; simpa using (show text ≠ [109, 115, 103] from n_msg)
      have q_true : ((S text).toList == ([116, 114, 117, 101] : List UInt8)) = false := by rw [eqB]; simpa using (show text ≠ [116, 114, 117, 101] from n_true)
      have q_false : ((S text).toList == ([102, 97, 108, 115, 101] : List UInt8)) = false := by rw [eqB]; simpa using (show text ≠ [102, 97, 108, 115, 101] from n_false)
      go_wp2_with fail
      refine (HND.out _ HP.out.rdg).mono ?_
      rintro e w2 ⟨rfl, o2, n2, bad2, f2, r2, hc2⟩
      have hb2 := HP.out.box.keep o2.kept hne2
      have ht2 := HP.out.tok.keep o2.kept hne3
      have a1 := r2.c1
      have az := r2.fz
      have p0 := hb2.c0
      have p1 := hb2.c1
      have p2 := hb2.c2
      have p3 := hb2.c3
      have pz := hb2.fz
      have j0 := ht2.c0
      have j1 := ht2.c1
      have j2 := ht2.c2
      rw [HK.out] at j0
      rw [HV.out] at j1
      have HXF := Lib.hid ((hb2.keep (Kept.set (ok := (· ≠ b)) w2 b 1 (.int .i64 ((s.at_ : Int) + 1)) (by simp)) hne2).put (.int .i64 6) (.int .i64 0) (.string (S text)) (.slice none 0 0))
      have HOF := Lib.hid (((HP.out.only.trans o2).set' 1 (.int .i64 ((s.at_ : Int) + 1))).put w.heap.size (Nat.le_refl _) (.int .i64 6) (.int .i64 0) (.string (S text)) (.slice none 0 0))
      have HRF := Lib.hid ((r2.set1 ((s.at_ : Int) + 1)).keep (Kept.put (ok := (· ≠ w.heap.size)) _ w.heap.size (.int .i64 6) (.int .i64 0) (.string (S text)) (.slice none 0 0) (by simp)) hne)
      have HC2 := Lib.hid hc2
      clear hb2 ht2 r2 o2 hc2
      go_wp2_with fail
      refine bodyPost_ret (res_expr rfl _ _ w.heap.size _ _ _ _ rfl HXF.out) rfl ?_
      exact ⟨HOF.out, 6, 0, text, none, 0, 0, rfl, leaf_post HRF.out (by simpa using HC2.out)⟩
theorem rprim_call (b g cap : Nat) (ts : List TA) (s : St) (w : World) (h : Rdg w b g cap ts.length s.at_ s.n s.open_ 0 0) (ht : TsAt w g ts) (hg : g ≠ b) (hs : StOk ts s) (hn : ts.length ≤ 8001) (r : R) (op : Int) (n : Nat) (hk : (tk ts s.at_).kind = 1) (hl : ((tk ts s.at_).text = wLen ∧ op = 12 ∧ n = 1) ∨ ((tk ts s.at_).text = wAt ∧ op = 25 ∧ n = 2) ∨ ((tk ts s.at_).text = wPush ∧ op = 26 ∧ n = 2))
    (HC : ∀ w1, Rdg w1 b g cap ts.length s.at_ s.n s.open_ 0 0 → TsAt w1 g ts → Calls Tryz.prog 209 #[.pointer (some ⟨b, 0, none⟩), .int .i64 op, .int .i64 n] w1 fun e w' => ResA b g cap ts w1 r e w') :
    Calls Tryz.prog 172 #[.pointer (some ⟨b, 0, none⟩)] w fun e w' => ResA b g cap ts w r e w' := by
  have HL := Lib.hid hl
  have HCC := Lib.hid HC
  have HK := Lib.hid hk
  clear hl HC hk
  have H := Lib.hid h
  have HS := Lib.hid hs
  have HT := Lib.hid ht
  have HG := Lib.hid hg
  have HN := Lib.hid hn
  have hlt := h.lt
  have hgl := ht.lt
  have hne : ¬ b = w.heap.size := by omega
  have hne2 : ¬ w.heap.size = b := by omega
  have hne3 : ¬ w.heap.size + 1 = b := by omega
  have hai : (s.at_ : Int) < (ts.length : Int) := by have := hs.at_; omega
  have hni : (ts.length : Int) ≤ 8001 := by omega
  have c0 := h.c0
  have c1 := h.c1
  obtain ⟨t0, t1, t2, t3⟩ := ht.tok hs.at_
  have zb : ∀ o j, (w.alloc o).cell? ⟨b, j, none⟩ = w.cell? ⟨b, j, none⟩ := fun o j => Kept.cell (Kept.alloc (ok := fun _ => True) w o) trivial hlt
  have zg : ∀ o j, (w.alloc o).cell? ⟨g, j, none⟩ = w.cell? ⟨g, j, none⟩ := fun o j => Kept.cell (Kept.alloc (ok := fun _ => True) w o) trivial hgl
  have HPN := Lib.hid (prS_new h)
  clear h ht hs hn hg
  go_enter Tryz.func172, Tryz.ntmps172
  go_upto_region 1 with fail
  go_cut [3] (fun x3 wx => x3 = .pointer (some ⟨w.heap.size + 1, 0, none⟩) ∧ PrS b g cap ts s w wx)
  case first =>
    go_region_with (fail)
    all_goals
      go_wp2_with fail
      go_meet
      exact ⟨rfl, HPN.out⟩
  case rest =>
    obtain ⟨rfl, hP⟩ := hcut
    have HP := Lib.hid hP
    have k0 := hP.tok.c0
    have k1 := hP.tok.c1
    have k2 := hP.tok.c2
    clear hP c0 c1 t0 t1 t2 t3 zb zg HPN
    rw [HK.out] at k0
    rcases HL.out with ⟨hx, rfl, rfl⟩ | ⟨hx, rfl, rfl⟩ | ⟨hx, rfl, rfl⟩
    · rw [hx] at k1
      unfold wLen at k1
      have q_len : ((S [108, 101, 110]).toList == ([108, 101, 110] : List UInt8)) = true := by rw [eqB]; rfl
      have q_at : ((S [108, 101, 110]).toList == ([97, 116] : List UInt8)) = false := by rw [eqB]; rfl
      have q_push : ((S [108, 101, 110]).toList == ([112, 117, 115, 104] : List UInt8)) = false := by rw [eqB]; rfl
      have q_msg : ((S [108, 101, 110]).toList == ([109, 115, 103] : List UInt8)) = false := by rw [eqB]; rfl
      have q_true : ((S [108, 101, 110]).toList == ([116, 114, 117, 101] : List UInt8)) = false := by rw [eqB]; rfl
      have q_false : ((S [108, 101, 110]).toList == ([102, 97, 108, 115, 101] : List UInt8)) = false := by rw [eqB]; rfl
      clear hx
      go_wp2_with fail
      refine (HCC.out _ HP.out.rdg (HP.out.only.ts HT.out HG.out)).mono ?_
      rintro e w3 ⟨o3, o, n, t, q, k, c, rfl, hp⟩
      have hx3 := HP.out.box.keep o3.kept hne2
      have f3 := hx3.fz
      have p0 := hx3.c0
      have p1 := hx3.c1
      have p2 := hx3.c2
      have p3 := hx3.c3
      have HX3 := Lib.hid (hx3.put (.int .i64 o) (.int .i64 n) (.string (S t)) (.slice q k c))
      have hsz := HP.out.size
      have HP3 := Lib.hid ((hp.keep (Kept.put w3 w.heap.size (.int .i64 o) (.int .i64 n) (.string (S t)) (.slice q k c) (by omega))).low (lo' := w.heap.size) (by omega))
      have HO3 := Lib.hid ((HP.out.only.trans o3).put w.heap.size (Nat.le_refl _) (.int .i64 o) (.int .i64 n) (.string (S t)) (.slice q k c))
      clear hx3 o3 hp hsz
      go_wp2_with fail
      refine bodyPost_ret (res_expr rfl _ _ w.heap.size _ _ _ _ rfl HX3.out) rfl ?_
      exact ⟨HO3.out, o, n, t, q, k, c, rfl, HP3.out⟩
    · rw [hx] at k1
      unfold wAt at k1
      have q_len : ((S [97, 116]).toList == ([108, 101, 110] : List UInt8)) = false := by rw [eqB]; rfl
      have q_at : ((S [97, 116]).toList == ([97, 116] : List UInt8)) = true := by rw [eqB]; rfl
      have q_push : ((S [97, 116]).toList == ([112, 117, 115, 104] : List UInt8)) = false := by rw [eqB]; rfl
      have q_msg : ((S [97, 116]).toList == ([109, 115, 103] : List UInt8)) = false := by rw [eqB]; rfl
      have q_true : ((S [97, 116]).toList == ([116, 114, 117, 101] : List UInt8)) = false := by rw [eqB]; rfl
      have q_false : ((S [97, 116]).toList == ([102, 97, 108, 115, 101] : List UInt8)) = false := by rw [eqB]; rfl
      clear hx
      go_wp2_with fail
      refine (HCC.out _ HP.out.rdg (HP.out.only.ts HT.out HG.out)).mono ?_
      rintro e w3 ⟨o3, o, n, t, q, k, c, rfl, hp⟩
      have hx3 := HP.out.box.keep o3.kept hne2
      have f3 := hx3.fz
      have p0 := hx3.c0
      have p1 := hx3.c1
      have p2 := hx3.c2
      have p3 := hx3.c3
      have HX3 := Lib.hid (hx3.put (.int .i64 o) (.int .i64 n) (.string (S t)) (.slice q k c))
      have hsz := HP.out.size
      have HP3 := Lib.hid ((hp.keep (Kept.put w3 w.heap.size (.int .i64 o) (.int .i64 n) (.string (S t)) (.slice q k c) (by omega))).low (lo' := w.heap.size) (by omega))
      have HO3 := Lib.hid ((HP.out.only.trans o3).put w.heap.size (Nat.le_refl _) (.int .i64 o) (.int .i64 n) (.string (S t)) (.slice q k c))
      clear hx3 o3 hp hsz
      go_wp2_with fail
      refine bodyPost_ret (res_expr rfl _ _ w.heap.size _ _ _ _ rfl HX3.out) rfl ?_
      exact ⟨HO3.out, o, n, t, q, k, c, rfl, HP3.out⟩
    · rw [hx] at k1
      unfold wPush at k1
      have q_len : ((S [112, 117, 115, 104]).toList == ([108, 101, 110] : List UInt8)) = false := by rw [eqB]; rfl
      have q_at : ((S [112, 117, 115, 104]).toList == ([97, 116] : List UInt8)) = false := by rw [eqB]; rfl
      have q_push : ((S [112, 117, 115, 104]).toList == ([112, 117, 115, 104] : List UInt8)) = true := by rw [eqB]; rfl
      have q_msg : ((S [112, 117, 115, 104]).toList == ([109, 115, 103] : List UInt8)) = false := by rw [eqB]; rfl
      have q_true : ((S [112, 117, 115, 104]).toList == ([116, 114, 117, 101] : List UInt8)) = false := by rw [eqB]; rfl
      have q_false : ((S [112, 117, 115, 104]).toList == ([102, 97, 108, 115, 101] : List UInt8)) = false := by rw [eqB]; rfl
      clear hx
      go_wp2_with fail
      refine (HCC.out _ HP.out.rdg (HP.out.only.ts HT.out HG.out)).mono ?_
      rintro e w3 ⟨o3, o, n, t, q, k, c, rfl, hp⟩
      have hx3 := HP.out.box.keep o3.kept hne2
      have f3 := hx3.fz
      have p0 := hx3.c0
      have p1 := hx3.c1
      have p2 := hx3.c2
      have p3 := hx3.c3
      have HX3 := Lib.hid (hx3.put (.int .i64 o) (.int .i64 n) (.string (S t)) (.slice q k c))
      have hsz := HP.out.size
      have HP3 := Lib.hid ((hp.keep (Kept.put w3 w.heap.size (.int .i64 o) (.int .i64 n) (.string (S t)) (.slice q k c) (by omega))).low (lo' := w.heap.size) (by omega))
      have HO3 := Lib.hid ((HP.out.only.trans o3).put w.heap.size (Nat.le_refl _) (.int .i64 o) (.int .i64 n) (.string (S t)) (.slice q k c))
      clear hx3 o3 hp hsz
      go_wp2_with fail
      refine bodyPost_ret (res_expr rfl _ _ w.heap.size _ _ _ _ rfl HX3.out) rfl ?_
      exact ⟨HO3.out, o, n, t, q, k, c, rfl, HP3.out⟩
end Go.Proofs.YtlmmfhbdebfgkaaGreatDoor.Ex
