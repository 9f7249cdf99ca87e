/-
  The document's own bytes of an artifact, and whether it may be kept.
-/
import Derived.Test.YtgfgafpaokefhaaZCdOpen
namespace Go.Proofs.Ytgfgafpaokefhaa.Cd
open Go.RowKit
open Pk Va
set_option linter.unusedVariables false
set_option linter.unusedSimpArgs false

theorem cntsB_len : ∀ l : List Int, (cntsB l).length ≤ 10 * l.length
  | [] => by simp [cntsB]
  | n :: r => by
    have h1 := cntI_len n
    have h2 := cntsB_len r
    unfold cntsB
    rw [List.length_append, List.length_cons]; omega
theorem mailsB_len : ∀ (l : List MailP), (∀ m ∈ l, MBig m ∧ m.key.length ≤ 40 ∧ m.fields.length ≤ 40) → (mailsB l).length ≤ 15000000000000000 * l.length
  | [], _ => by simp [mailsB]
  | m :: r, h => by
    obtain ⟨h1, h2, h3⟩ := h m (by simp)
    have h4 := mailB_len m h1 h2 h3
    have h5 := mailsB_len r (fun x hx => h x (by simp [hx]))
    unfold mailsB
    rw [List.length_append, List.length_cons]
    omega
/-- What stands ahead of the counters; ahead of the messages. -/
def itemA (x : ItemP) : List UInt8 := numB x.id ++ numB x.since ++ txtB x.typ ++ txtB x.state ++ rowB x.attrs ++ cntI (x.counts.length : Int)
def itemC (x : ItemP) : List UInt8 := itemA x ++ cntsB x.counts ++ cntI (x.box.length : Int)
theorem itemB_eq (x : ItemP) (hc : x.counts.length ≤ 281474976710656) (hb : x.box.length ≤ 281474976710656) : itemB x = itemC x ++ mailsB x.box := by
  unfold itemB itemC itemA
  rw [cntI_len_eq _ hc, cntI_len_eq _ hb]
theorem itemA_len (x : ItemP) (h : IBig x) (ha : x.attrs.length ≤ 40) : (itemA x).length ≤ 8000000000000000 := by
  have l1 := numB_len x.id
  have l2 := numB_len x.since
  have l4 := txtB_len x.typ
  have l5 := txtB_len x.state
  have l6 := h.typ
  have l8 := h.state
  have l7 := rowB_len x.attrs h.attrs ha
  have l9 := cntI_len (x.counts.length : Int)
  unfold itemA
  simp only [List.length_append]
  omega
theorem itemC_len (x : ItemP) (h : IBig x) (ha : x.attrs.length ≤ 40) (hc : x.counts.length ≤ 40) : (itemC x).length ≤ 8000000000001000 := by
  have l1 := itemA_len x h ha
  have l2 := cntsB_len x.counts
  have l9 := cntI_len (x.box.length : Int)
  unfold itemC
  simp only [List.length_append]
  omega

set_option maxRecDepth 100000 in
set_option maxHeartbeats 8000000 in
theorem ritem_any (x : ItemP) (hi : IBig x) (ha : x.attrs.length ≤ 40) (hc : x.counts.length ≤ 40) (hb200 : x.box.length ≤ 200) (hm : ∀ m ∈ x.box, m.key.length ≤ 40 ∧ m.fields.length ≤ 40) (aa : Option Addr) (ac : Nat) (ca : Option Addr) (cc : Nat) (ba : Option Addr) (bc : Nat) (w : World) (hat : ValsAt w aa x.attrs) (hct : NumsAt w ca x.counts) (hbt : MailsAt w ba x.box) :
    Calls Try.prog 20 #[.agg #[.int .i64 x.id, .string (S x.typ), .string (S x.state), .int .i64 x.since, .slice aa x.attrs.length ac, .slice ca x.counts.length cc, .slice ba x.box.length bc]] w fun e w' => e = .returned (.string (S (itemB x))) ∧ Below w.heap.size w w' := by
  obtain ⟨W0, hW0⟩ : ∃ W0, W0 = w.alloc (.cells #[.int .i64 x.id, .string (S x.typ), .string (S x.state), .int .i64 x.since, .slice aa x.attrs.length ac, .slice ca x.counts.length cc, .slice ba x.box.length bc] 31) := ⟨_, rfl⟩
  have hb : Below w.heap.size w W0 := by rw [hW0]; exact (Below.refl w.heap.size w).alloc (Nat.le_refl _) _
  have hbx : W0.heap[w.heap.size]? = some (.cells #[.int .i64 x.id, .string (S x.typ), .string (S x.state), .int .i64 x.since, .slice aa x.attrs.length ac, .slice ca x.counts.length cc, .slice ba x.box.length bc] 31 (0, 0)) := by rw [hW0]; exact heap_alloc_new w _
  have hcn : ∀ (n : Int) W, Calls Try.prog 57 #[.int .u64 (IntKind.u64.wrap n)] W fun e w' => e = .returned (.string (S (cntI n))) ∧ Below W.heap.size W w' := fun n W => by
    rw [show IntKind.u64.wrap n = n % 18446744073709551616 by simp only [IntKind.wrap_u64]]
    exact refCount_int _ (by omega) (by omega) W
  have hcm : ∀ (n : Int) W, Calls Try.prog 57 #[.int .u64 (n % 18446744073709551616)] W fun e w' => e = .returned (.string (S (cntI n))) ∧ Below W.heap.size W w' := fun n W => refCount_int _ (by omega) (by omega) W
  have HCM := Lib.hid (fun (i : Nat) (hi : i < x.counts.length) W (k : Good W0 W) => show Calls Try.prog 57 #[.int .u64 (IntKind.u64.wrap x.counts[i])] W fun e w' => e = .returned (.string (S (cntI x.counts[i]))) ∧ Good W0 w' from by
    refine (hcn _ W).mono ?_
    rintro e w' ⟨rfl, b⟩
    exact ⟨rfl, k.step b⟩)
  have HCB := Lib.hid (fun W (k : Good W0 W) => show Calls Try.prog 57 #[.int .u64 (x.box.length : Int)] W fun e w' => e = .returned (.string (S (cntI (x.box.length : Int)))) ∧ Good W0 w' from by
    refine (hcm (x.box.length : Int) W).mono ?_ |> fun h => by
      rwa [show (x.box.length : Int) % 18446744073709551616 = (x.box.length : Int) by omega] at h
    rintro e w' ⟨rfl, b⟩
    exact ⟨rfl, k.step b⟩)
  have HMM := Lib.hid (fun (i : Nat) (h : i < x.box.length) ka kc fa fc W (k : Good W0 W) (h1 : ValsAt W ka x.box[i].key) (h2 : ValsAt W fa x.box[i].fields) => show Calls Try.prog 18 #[.agg #[.int .i64 x.box[i].id, .string (S x.box[i].chan), .slice ka x.box[i].key.length kc, .slice fa x.box[i].fields.length fc]] W fun e w' => e = .returned (.string (S (mailB x.box[i]))) ∧ Good W0 w' from by
    refine (rmail_any x.box[i] (hi.box _ (List.getElem_mem _)) (hm _ (List.getElem_mem _)).1 (hm _ (List.getElem_mem _)).2 ka kc fa fc W h1 h2).mono ?_
    rintro e w' ⟨rfl, b⟩
    exact ⟨rfl, k.step b⟩)
  have HA1 := Lib.hid (fun (i : Nat) (h : i < x.counts.length) w => add_S (itemA x ++ cntsB (x.counts.take i)) (cntI x.counts[i]) (by
    have h1 := itemA_len x hi ha
    have h2 := cntsB_len (x.counts.take i)
    have h3 := cntI_len x.counts[i]
    have h4 : (x.counts.take i).length ≤ x.counts.length := by rw [List.length_take]; omega
    simp only [List.length_append]
    omega) w)
  have HS1 := Lib.hid (fun (i : Nat) (h : i < x.counts.length) => show itemA x ++ cntsB (x.counts.take i) ++ cntI x.counts[i] = itemA x ++ cntsB (x.counts.take (i + 1)) from by rw [List.take_succ_eq_append_getElem h, cntsB_append]; simp [cntsB])
  have HE1 := Lib.hid (show S (itemA x) = S (itemA x ++ cntsB (x.counts.take 0)) by simp [cntsB])
  have HA2 := Lib.hid (fun w => add_S (itemA x ++ cntsB (x.counts.take x.counts.length)) (cntI (x.box.length : Int)) (by
    have h1 := itemA_len x hi ha
    have h2 := cntsB_len (x.counts.take x.counts.length)
    have h3 := cntI_len (x.box.length : Int)
    have h4 : (x.counts.take x.counts.length).length ≤ x.counts.length := by rw [List.length_take]; omega
    simp only [List.length_append]
    omega) w)
  have HE2 := Lib.hid (show S (itemA x ++ cntsB (x.counts.take x.counts.length) ++ cntI (x.box.length : Int)) = S (itemC x ++ mailsB (x.box.take 0)) by rw [List.take_length]; simp [mailsB, itemC])
  have HA3 := Lib.hid (fun (i : Nat) (h : i < x.box.length) w => add_S (itemC x ++ mailsB (x.box.take i)) (mailB x.box[i]) (by
    have h1 := itemC_len x hi ha hc
    have h2 := mailsB_len (x.box.take i) (fun m hmm => ⟨hi.box _ (List.mem_of_mem_take hmm), hm _ (List.mem_of_mem_take hmm)⟩)
    have h3 := mailB_len x.box[i] (hi.box _ (List.getElem_mem _)) (hm _ (List.getElem_mem _)).1 (hm _ (List.getElem_mem _)).2
    have h4 : (x.box.take i).length ≤ x.box.length := by rw [List.length_take]; omega
    simp only [List.length_append]
    omega) w)
  have HS3 := Lib.hid (fun (i : Nat) (h : i < x.box.length) => show itemC x ++ mailsB (x.box.take i) ++ mailB x.box[i] = itemC x ++ mailsB (x.box.take (i + 1)) from by rw [List.take_succ_eq_append_getElem h, mailsB_append]; simp [mailsB])
  have HV := Lib.hid (show itemB x = itemC x ++ mailsB (x.box.take x.box.length) by rw [List.take_length]; exact itemB_eq x hi.clen hi.blen)
  have HCT := Lib.hid (fun W (k : Good W0 W) => (hct.below hb).below k)
  have HBT := Lib.hid (fun W (k : Good W0 W) => (hbt.below hb).below k)
  have hci : (x.counts.length : Int) ≤ 40 := by omega
  have hbi : (x.box.length : Int) ≤ 200 := by omega
  have HC0 := Lib.hid (show ∀ W, Good W0 W → Calls Try.prog 55 #[.int .i64 x.id] W fun e w' => e = .returned (.string (S (numB x.id))) ∧ Good W0 w' from fun W kk => by
    refine (refNumber_any (x.id) hi.id.lo (by have := hi.id.hi; omega) W).mono ?_
    rintro e w' ⟨rfl, b⟩
    exact ⟨rfl, kk.step b⟩)
  have HC1 := Lib.hid (show ∀ W, Good W0 W → Calls Try.prog 55 #[.int .i64 x.since] W fun e w' => e = .returned (.string (S (numB x.since))) ∧ Good W0 w' from fun W kk => by
    refine (refNumber_any (x.since) hi.since.lo (by have := hi.since.hi; omega) W).mono ?_
    rintro e w' ⟨rfl, b⟩
    exact ⟨rfl, kk.step b⟩)
  have HC2 := Lib.hid (show ∀ W, Good W0 W → Calls Try.prog 56 #[.string (S x.typ)] W fun e w' => e = .returned (.string (S (txtB x.typ))) ∧ Good W0 w' from fun W kk => by
    refine (rtext_big x.typ hi.typ W).mono ?_
    rintro e w' ⟨rfl, b⟩
    exact ⟨rfl, kk.step b⟩)
  have HC3 := Lib.hid (show ∀ W, Good W0 W → Calls Try.prog 56 #[.string (S x.state)] W fun e w' => e = .returned (.string (S (txtB x.state))) ∧ Good W0 w' from fun W kk => by
    refine (rtext_big x.state hi.state W).mono ?_
    rintro e w' ⟨rfl, b⟩
    exact ⟨rfl, kk.step b⟩)
  have HC4 := Lib.hid (show ∀ W, Good W0 W → Calls Try.prog 59 #[.slice aa x.attrs.length ac] W fun e w' => e = .returned (.string (S (rowB x.attrs))) ∧ Good W0 w' from fun W kk => by
    refine (rrow_any x.attrs hi.attrs ha aa ac W ((hat.below hb).below kk)).mono ?_
    rintro e w' ⟨rfl, b⟩
    exact ⟨rfl, kk.step b⟩)
  have HC5 := Lib.hid (show ∀ W, Good W0 W → Calls Try.prog 57 #[.int .u64 (IntKind.u64.wrap (x.counts.length : Int))] W fun e w' => e = .returned (.string (S (cntI (x.counts.length : Int)))) ∧ Good W0 w' from fun W kk => by
    refine (hcn _ W).mono ?_
    rintro e w' ⟨rfl, b⟩
    exact ⟨rfl, kk.step b⟩)
  have hadd1 := fun w => add_S (numB x.id) (numB x.since) (by have l1 := itemA_len x hi ha; unfold itemA at l1; (try simp only [List.length_append] at l1 ⊢); omega) w
  have hadd2 := fun w => add_S (numB x.id ++ numB x.since) (txtB x.typ) (by have l1 := itemA_len x hi ha; unfold itemA at l1; (try simp only [List.length_append] at l1 ⊢); omega) w
  have hadd3 := fun w => add_S (numB x.id ++ numB x.since ++ txtB x.typ) (txtB x.state) (by have l1 := itemA_len x hi ha; unfold itemA at l1; (try simp only [List.length_append] at l1 ⊢); omega) w
  have hadd4 := fun w => add_S (numB x.id ++ numB x.since ++ txtB x.typ ++ txtB x.state) (rowB x.attrs) (by have l1 := itemA_len x hi ha; unfold itemA at l1; (try simp only [List.length_append] at l1 ⊢); omega) w
  have hadd5 := fun w => add_S (numB x.id ++ numB x.since ++ txtB x.typ ++ txtB x.state ++ rowB x.attrs) (cntI (x.counts.length : Int)) (by have l1 := itemA_len x hi ha; unfold itemA at l1; (try simp only [List.length_append] at l1 ⊢); omega) w
  have HKEEP := Lib.hid (fun w7 (kk : Good W0 w7) => show w7.cell? ⟨w.heap.size, 0, none⟩ = some (.int .i64 x.id) ∧ w7.cell? ⟨w.heap.size, 1, none⟩ = some (.string (S x.typ)) ∧ w7.cell? ⟨w.heap.size, 2, none⟩ = some (.string (S x.state)) ∧ w7.cell? ⟨w.heap.size, 3, none⟩ = some (.int .i64 x.since) ∧ w7.cell? ⟨w.heap.size, 4, none⟩ = some (.slice aa x.attrs.length ac) ∧ w7.cell? ⟨w.heap.size, 5, none⟩ = some (.slice ca x.counts.length cc) ∧ w7.cell? ⟨w.heap.size, 6, none⟩ = some (.slice ba x.box.length bc) from
    ⟨cell_of_row w7 w.heap.size 0 _ _ (0, 0) ((kk.block w.heap.size (lt_of_heapV hbx)).trans hbx), cell_of_row w7 w.heap.size 1 _ _ (0, 0) ((kk.block w.heap.size (lt_of_heapV hbx)).trans hbx), cell_of_row w7 w.heap.size 2 _ _ (0, 0) ((kk.block w.heap.size (lt_of_heapV hbx)).trans hbx), cell_of_row w7 w.heap.size 3 _ _ (0, 0) ((kk.block w.heap.size (lt_of_heapV hbx)).trans hbx), cell_of_row w7 w.heap.size 4 _ _ (0, 0) ((kk.block w.heap.size (lt_of_heapV hbx)).trans hbx), cell_of_row w7 w.heap.size 5 _ _ (0, 0) ((kk.block w.heap.size (lt_of_heapV hbx)).trans hbx), cell_of_row w7 w.heap.size 6 _ _ (0, 0) ((kk.block w.heap.size (lt_of_heapV hbx)).trans hbx)⟩)
  have HS0 := Lib.hid (HKEEP.out W0.drew (Good.refl W0).drew)
  have HG0 := Lib.hid (Good.refl W0)
  have HFIN := Lib.hid (fun (wr : World) (h : Good W0 wr) => hb.trans (h.mono hb.size))
  have HW0 := Lib.hid hW0
  have HR := Lib.hid (show itemA x = numB x.id ++ numB x.since ++ txtB x.typ ++ txtB x.state ++ rowB x.attrs ++ cntI (x.counts.length : Int) from rfl)
  clear hb hbx hW0 hi ha hc hb200 hm hat hct hbt hcn hcm
  generalize hA : S (numB x.id ++ numB x.since ++ txtB x.typ ++ txtB x.state ++ rowB x.attrs ++ cntI (x.counts.length : Int)) = AA at *
  have HA := Lib.hid hA
  clear hA
  generalize S (numB x.id ++ numB x.since ++ txtB x.typ ++ txtB x.state ++ rowB x.attrs) = A4 at *
  generalize S (numB x.id ++ numB x.since ++ txtB x.typ ++ txtB x.state) = A3 at *
  generalize S (numB x.id ++ numB x.since ++ txtB x.typ) = A2 at *
  generalize S (numB x.id ++ numB x.since) = A1 at *
  generalize S (numB x.id) = D0 at *
  generalize S (numB x.since) = D1 at *
  generalize S (txtB x.typ) = D2 at *
  generalize S (txtB x.state) = D3 at *
  generalize S (rowB x.attrs) = D4 at *
  generalize S (cntI (x.counts.length : Int)) = D5 at *
  go_enter Try.func20, Try.ntmps20
  go_wp2_with fail
  rw [← HW0.out]
  go_region_held3 (fun w7 => w7.cell? ⟨w.heap.size, 0, none⟩ = some (.int .i64 x.id) ∧ w7.cell? ⟨w.heap.size, 1, none⟩ = some (.string (S x.typ)) ∧ w7.cell? ⟨w.heap.size, 2, none⟩ = some (.string (S x.state)) ∧ w7.cell? ⟨w.heap.size, 3, none⟩ = some (.int .i64 x.since) ∧ w7.cell? ⟨w.heap.size, 4, none⟩ = some (.slice aa x.attrs.length ac) ∧ w7.cell? ⟨w.heap.size, 5, none⟩ = some (.slice ca x.counts.length cc) ∧ w7.cell? ⟨w.heap.size, 6, none⟩ = some (.slice ba x.box.length bc))
    (first | assumption | exact HS0.out | exact HK7.out)
    (first
    | (go_at_call 55; with_reducible refine (HC0.out _ (by first | exact good_id (by assumption) | exact good_drew (by assumption))).mono ?_; rintro e w7 ⟨rfl, b7⟩; have HG7 := Lib.hid b7; have HK7 := Lib.hid (HKEEP.out _ b7); clear b7)
    | (go_at_call 55; with_reducible refine (HC1.out _ (by first | exact good_id (by assumption) | exact good_drew (by assumption))).mono ?_; rintro e w7 ⟨rfl, b7⟩; have HG7 := Lib.hid b7; have HK7 := Lib.hid (HKEEP.out _ b7); clear b7)
    | (go_at_call 56; with_reducible refine (HC2.out _ (by first | exact good_id (by assumption) | exact good_drew (by assumption))).mono ?_; rintro e w7 ⟨rfl, b7⟩; have HG7 := Lib.hid b7; have HK7 := Lib.hid (HKEEP.out _ b7); clear b7)
    | (go_at_call 56; with_reducible refine (HC3.out _ (by first | exact good_id (by assumption) | exact good_drew (by assumption))).mono ?_; rintro e w7 ⟨rfl, b7⟩; have HG7 := Lib.hid b7; have HK7 := Lib.hid (HKEEP.out _ b7); clear b7)
    | (go_at_call 59; with_reducible refine (HC4.out _ (by first | exact good_id (by assumption) | exact good_drew (by assumption))).mono ?_; rintro e w7 ⟨rfl, b7⟩; have HG7 := Lib.hid b7; have HK7 := Lib.hid (HKEEP.out _ b7); clear b7)
    | (go_at_call 57; with_reducible refine (HC5.out _ (by first | exact good_id (by assumption) | exact good_drew (by assumption))).mono ?_; rintro e w7 ⟨rfl, b7⟩; have HG7 := Lib.hid b7; have HK7 := Lib.hid (HKEEP.out _ b7); clear b7))
  all_goals
    obtain ⟨p0, p1, p2, p3, p4, p5, p6⟩ := HK7.out
    have hAA : AA = S (itemA x ++ cntsB (x.counts.take 0)) := by rw [← HE1.out, HR.out, HA.out]
    have HAA := Lib.hid hAA
    clear hAA
    go_wp2_with fail
    go_loopw [3, 36] (fun s iv wr => ∃ k : Nat, k ≤ x.counts.length ∧ iv = .int .i64 k ∧ s = .string (S (itemA x ++ cntsB (x.counts.take k))) ∧ Good W0 wr) (fun _ iv _ => x.counts.length - (intOf iv).toNat)
    case atStart => exact ⟨0, Nat.zero_le _, rfl, by rw [HAA.out], (by first | exact good_id (by assumption) | exact good_drew (by assumption))⟩
    case round =>
      obtain ⟨k, hk, rfl, rfl, hg⟩ := hrel
      have HG := Lib.hid hg
      by_cases hlt : k < x.counts.length
      · obtain ⟨g, o, hae, c0, hgl⟩ := (HCT.out _ hg) k hlt
        rw [show x.counts.getD k 0 = x.counts[k] by simp [List.getD, hlt]] at c0
        subst hae
        have hki : (k : Int) < (x.counts.length : Int) := by omega
        have HNk := Lib.hid (HCM.out k hlt _ hg)
        have hadd2 := HA1.out k hlt
        rw [HS1.out k hlt] at hadd2
        clear hg
        generalize x.counts[k] = z at *
        generalize S (cntI z) = d at *
        generalize S (itemA x ++ cntsB (x.counts.take k)) = s0 at *
        go_wp2_with fail
        with_reducible refine HNk.out.mono ?_
        rintro e w3 ⟨rfl, g3⟩
        have HG3 := Lib.hid g3
        clear g3
        go_wp2_with fail
        go_roundw
        case rel => exact ⟨k + 1, by omega, by go_num, rfl, HG3.out⟩
        case measure => simp [intOf]; omega
      · have hke : k = x.counts.length := by omega
        have hki : ¬ (k : Int) < (x.counts.length : Int) := by omega
        subst hke
        obtain ⟨p0, p1, p2, p3, p4, p5, p6⟩ := HKEEP.out _ hg
        have hadd3 := HA2.out
        have HCB2 := Lib.hid (HCB.out _ hg)
        clear hg
        generalize hs0 : S (itemA x ++ cntsB (x.counts.take x.counts.length)) = s0 at *
        generalize hs1 : S (itemA x ++ cntsB (x.counts.take x.counts.length) ++ cntI (x.box.length : Int)) = s1 at *
        generalize S (cntI (x.box.length : Int)) = d at *
        have HS1' := Lib.hid hs1
        clear hs0 hs1
        go_wp2_with fail
        with_reducible refine HCB2.out.mono ?_
        rintro e w3 ⟨rfl, g3⟩
        have HG3 := Lib.hid g3
        obtain ⟨p0, p1, p2, p3, p4, p5, p6⟩ := HKEEP.out _ g3
        clear g3
        go_wp2_with fail
        go_loopw [3, 56] (fun s iv wr => ∃ k : Nat, k ≤ x.box.length ∧ iv = .int .i64 k ∧ s = .string (S (itemC x ++ mailsB (x.box.take k))) ∧ Good W0 wr) (fun _ iv _ => x.box.length - (intOf iv).toNat)
        case atStart => exact ⟨0, Nat.zero_le _, rfl, by rw [← HE2.out], HG3.out⟩
        case round =>
          obtain ⟨k, hk, rfl, rfl, hg⟩ := hrel
          have HG := Lib.hid hg
          by_cases hlt : k < x.box.length
          · obtain ⟨g, o, ka, kc, fa, fc, hae, hm0, hg0⟩ := (HBT.out _ hg) k hlt
            obtain ⟨m0, m1, m2, m3, hv1, hv2⟩ := hm0
            subst hae
            have hki : (k : Int) < (x.box.length : Int) := by omega
            have kk := (Below.refl wr.heap.size wr).alloc (Nat.le_refl _) (.cells #[.int .i64 x.box[k].id, .string (S x.box[k].chan), .slice ka x.box[k].key.length kc, .slice fa x.box[k].fields.length fc] 27)
            have HMk := Lib.hid (HMM.out k hlt ka kc fa fc _ (hg.alloc (.cells #[.int .i64 x.box[k].id, .string (S x.box[k].chan), .slice ka x.box[k].key.length kc, .slice fa x.box[k].fields.length fc] 27)) (hv1.below kk) (hv2.below kk))
            have hadd2 := HA3.out k hlt
            rw [HS3.out k hlt] at hadd2
            clear hg kk hv1 hv2
            generalize x.box[k] = z at *
            generalize S (mailB z) = d at *
            generalize S (itemC x ++ mailsB (x.box.take k)) = s0 at *
            go_wp2_with fail
            with_reducible refine HMk.out.mono ?_
            rintro e w5 ⟨rfl, g5⟩
            have HG5 := Lib.hid g5
            clear g5
            go_wp2_with fail
            go_roundw
            case rel => exact ⟨k + 1, by omega, by go_num, rfl, HG5.out⟩
            case measure => simp [intOf]; omega
          · have hke : k = x.box.length := by omega
            have hki : ¬ (k : Int) < (x.box.length : Int) := by omega
            subst hke
            generalize hs5 : S (itemC x ++ mailsB (x.box.take x.box.length)) = s5 at *
            have HS5 := Lib.hid hs5
            clear hg hs5
            go_wp2_with fail
            go_ret
            exact ⟨by rw [HV.out, HS5.out]; rfl, HFIN.out _ HG.out⟩

end Go.Proofs.Ytgfgafpaokefhaa.Cd
