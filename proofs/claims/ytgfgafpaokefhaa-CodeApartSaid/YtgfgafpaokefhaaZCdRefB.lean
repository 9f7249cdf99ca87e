/-
  The document's own bytes: of a row, a message, a dead letter, an event, a subscription.
-/
import Derived.Test.YtgfgafpaokefhaaZCdRefA
import Derived.Test.YtgfgafpaokefhaaZCdSeq
namespace Go.Proofs.Ytgfgafpaokefhaa.Cd
open Go.RowKit
open Pk Va
set_option linter.unusedVariables false
set_option linter.unusedSimpArgs false

theorem valsB_len : ∀ (l : List V), (∀ v ∈ l, VBig v) → (valsB l).length ≤ 180000000000000 * l.length
  | [], _ => by simp [valsB]
  | v :: r, h => by
    have h1 := valB_len v (h v (by simp))
    have h2 := valsB_len r (fun x hx => h x (by simp [hx]))
    unfold valsB
    rw [List.length_append, List.length_cons]
    omega
theorem valsB_take (l : List V) (h : ∀ v ∈ l, VBig v) (k : Nat) (hk : k ≤ 40) : (valsB (l.take k)).length ≤ 7200000000000000 := by
  have h1 := valsB_len (l.take k) (fun v hv => h v (List.mem_of_mem_take hv))
  have h2 : (l.take k).length ≤ k := by rw [List.length_take]; omega
  omega
theorem rowB_len (l : List V) (h : ∀ v ∈ l, VBig v) (hl : l.length ≤ 40) : (rowB l).length ≤ 7200000000000010 := by
  have h1 := valsB_take l h l.length hl
  rw [List.take_length] at h1
  have h2 := cntB_len l.length
  unfold rowB
  rw [List.length_append]
  omega

set_option maxRecDepth 100000 in
set_option maxHeartbeats 4000000 in
theorem rrow_any (xs : List V) (hok : ∀ v ∈ xs, VBig v) (hlen : xs.length ≤ 40) (a : Option Addr) (cap : Nat) (w : World) (hx : ValsAt w a xs) :
    Calls Try.prog 59 #[.slice a xs.length cap] w fun e w' => e = .returned (.string (S (rowB xs))) ∧ Below w.heap.size w w' := by
  have hli : (xs.length : Int) ≤ 40 := by omega
  have HN := Lib.hid (fun w => refCount_int (xs.length : Int) (by omega) (by omega) w)
  rw [Int.toNat_natCast] at HN
  have hwr : IntKind.u64.wrap (xs.length : Int) = (xs.length : Int) := by simp only [IntKind.wrap_u64]; omega
  have HVS := Lib.hid (fun (i : Nat) (hi : i < xs.length) a' c' (w : World) (hxx : NumsAt w a' xs[i].list) => rval_any xs[i] (hok _ (List.getElem_mem _)) a' c' w hxx)
  have HAS := Lib.hid (fun (i : Nat) (hi : i < xs.length) w => add_S (enc xs.length ++ valsB (xs.take i)) (valB xs[i]) (by
    have h1 := enc_len xs.length
    have h2 := valsB_take xs hok i (by omega)
    have h3 := valB_len xs[i] (hok _ (List.getElem_mem _))
    simp only [List.length_append]
    omega) w)
  have HST := Lib.hid (fun (i : Nat) (hi : i < xs.length) => show enc xs.length ++ valsB (xs.take i) ++ valB xs[i] = enc xs.length ++ valsB (xs.take (i + 1)) from by rw [List.take_succ_eq_append_getElem hi, valsB_append]; simp [valsB])
  have HV := Lib.hid (show rowB xs = enc xs.length ++ valsB (xs.take xs.length) by rw [List.take_length]; rfl)
  have HX := Lib.hid hx
  clear hx hok
  go_enter Try.func59, Try.ntmps59
  go_wp2_with fail
  refine (HN.out _).mono ?_
  rintro e w1 ⟨rfl, b1⟩
  have B1 := Lib.hid b1
  have HX1 := Lib.hid (HX.out.below b1)
  have HE := Lib.hid (show S (enc xs.length) = S (enc xs.length ++ valsB (xs.take 0)) by simp [valsB])
  clear b1 HX
  go_wp2_with fail
  go_loopw [3, 12] (fun s i wr => ∃ k : Nat, k ≤ xs.length ∧ i = .int .i64 k ∧ s = .string (S (enc xs.length ++ valsB (xs.take k))) ∧ Below w1.heap.size w1 wr) (fun _ i _ => xs.length - (intOf i).toNat)
  case atStart => exact ⟨0, by omega, rfl, by rw [← HE.out], Below.refl _ _⟩
  case round =>
    obtain ⟨k, hk, rfl, rfl, hb⟩ := hrel
    by_cases hlt : k < xs.length
    · obtain ⟨g, o, rfl, ⟨q, cc, p0, p1, p2, p3, hn⟩, hg⟩ := (HX1.out.below hb) k hlt
      have hki : (k : Int) < (xs.length : Int) := by omega
      have hbx := (Below.refl wr.heap.size wr).alloc (Nat.le_refl _) (.cells #[.int .i64 xs[k].kind, .int .i64 xs[k].num, .string (S xs[k].text), .slice q xs[k].list.length cc] 24)
      have HC := Lib.hid (HVS.out k hlt q cc _ (hn.below hbx))
      have hadd := HAS.out k hlt
      rw [HST.out k hlt] at hadd
      have HBE := Lib.hid (hb.trans (hbx.mono hb.size))
      clear hb hbx hn
      generalize xs[k] = x at *
      unfold valC at HC
      generalize S (valB x) = d at *
      generalize S (enc xs.length ++ valsB (xs.take k)) = s0 at *
      go_wp2_with fail
      refine HC.out.mono ?_
      rintro e w3 ⟨rfl, b3⟩
      have HB3 := Lib.hid (HBE.out.trans (b3.mono HBE.out.size))
      clear b3
      go_wp2_with fail
      go_roundw
      case rel => exact ⟨k + 1, by omega, by go_num, rfl, HB3.out⟩
      case measure => simp [intOf]; omega
    · have hke : k = xs.length := by omega
      have hki : ¬ (k : Int) < (xs.length : Int) := by omega
      subst hke
      have HBE := Lib.hid (B1.out.trans (hb.mono B1.out.size))
      clear hb
      generalize hs0 : S (enc xs.length ++ valsB (xs.take xs.length)) = s0 at *
      have HS0 := Lib.hid hs0
      clear hs0
      go_wp2_with fail
      go_ret
      exact ⟨by rw [HV.out, HS0.out]; rfl, HBE.out⟩

set_option maxRecDepth 100000 in
set_option maxHeartbeats 4000000 in
theorem rrightRow_any (xs : List V) (hok : ∀ v ∈ xs, VOk v) (hlen : xs.length ≤ 281474976710656) (a : Option Addr) (cap : Nat) (w : World) (hx : ValsAt w a xs) :
    Calls Try.prog 60 #[.slice a xs.length cap] w fun e w' => e = .returned (.bool (rowOk xs)) ∧ Below w.heap.size w w' := by
  have hli : (xs.length : Int) ≤ 281474976710656 := by omega
  by_cases h16 : xs.length ≤ 16
  · have h16i : ¬ (16 : Int) < (xs.length : Int) := by omega
    have HVS := Lib.hid (fun (i : Nat) (hi : i < xs.length) a' c' (w : World) => refRight_any xs[i] (hok _ (List.getElem_mem _)) a' c' w)
    have HALL := Lib.hid (fun (h : ∀ i (hi : i < xs.length), rightB xs[i] = true) => show rowOk xs = true from by
      unfold rowOk
      rw [decide_eq_true h16, Bool.true_and, List.all_eq_true]
      intro v hv
      obtain ⟨i, hi, rfl⟩ := List.getElem_of_mem hv
      exact h i hi)
    have HNO := Lib.hid (fun (i : Nat) (hi : i < xs.length) (h : rightB xs[i] = false) => show rowOk xs = false from by
      unfold rowOk
      cases e : xs.all rightB with
      | false => simp
      | true =>
        rw [List.all_eq_true] at e
        rw [e _ (List.getElem_mem hi)] at h
        cases h)
    have HX := Lib.hid hx
    clear hx hok h16
    go_enter Try.func60, Try.ntmps60
    go_wp2_with fail
    go_loopw [10] (fun i wr => ∃ k : Nat, k ≤ xs.length ∧ i = .int .i64 k ∧ (∀ j (hj : j < xs.length), j < k → rightB xs[j] = true) ∧ Below w.heap.size w wr) (fun i _ => xs.length - (intOf i).toNat)
    case atStart => exact ⟨0, by omega, rfl, fun j _ h => absurd h (Nat.not_lt_zero _), Below.refl _ _⟩
    case round =>
      obtain ⟨k, hk, rfl, hA, hb⟩ := hrel
      have HA := Lib.hid hA
      clear hA
      by_cases hlt : k < xs.length
      · obtain ⟨g, o, rfl, ⟨q, cc, p0, p1, p2, p3, hn⟩, hg⟩ := (HX.out.below hb) k hlt
        have hki : (k : Int) < (xs.length : Int) := by omega
        have hbx := (Below.refl wr.heap.size wr).alloc (Nat.le_refl _) (.cells #[.int .i64 xs[k].kind, .int .i64 xs[k].num, .string (S xs[k].text), .slice q xs[k].list.length cc] 24)
        have HC := Lib.hid (HVS.out k hlt q cc (wr.alloc (.cells #[.int .i64 xs[k].kind, .int .i64 xs[k].num, .string (S xs[k].text), .slice q xs[k].list.length cc] 24)))
        have HBE := Lib.hid (hb.trans (hbx.mono hb.size))
        have HK := Lib.hid (HNO.out k hlt)
        have HS := Lib.hid (fun (h : rightB xs[k] = true) => show ∀ j (hj : j < xs.length), j < k + 1 → rightB xs[j] = true from fun j hj hjk => by
          by_cases e : j = k
          · subst e; exact h
          · exact HA.out j hj (by omega))
        clear hb hbx hn
        generalize xs[k] = x at *
        unfold valC at HC
        cases hr : rightB x with
        | true =>
          rw [hr] at HC
          have HS2 := Lib.hid (HS.out hr)
          clear hr
          go_wp2_with fail
          refine HC.out.mono ?_
          rintro e w3 ⟨rfl, b3⟩
          have HB3 := Lib.hid (HBE.out.trans (b3.mono HBE.out.size))
          clear b3
          go_wp2_with fail
          go_roundw
          case rel => exact ⟨k + 1, by omega, by go_num, HS2.out, HB3.out⟩
          case measure => simp [intOf]; omega
        | false =>
          rw [hr] at HC
          have HK2 := Lib.hid (HK.out hr)
          clear hr
          go_wp2_with fail
          refine HC.out.mono ?_
          rintro e w3 ⟨rfl, b3⟩
          have HB3 := Lib.hid (HBE.out.trans (b3.mono HBE.out.size))
          clear b3
          go_wp2_with fail
          go_ret
          exact ⟨by rw [HK2.out]; rfl, HB3.out⟩
      · have hki : ¬ (k : Int) < (xs.length : Int) := by omega
        have HBE := Lib.hid hb
        have HF := Lib.hid (HALL.out fun j hj => HA.out j hj (by omega))
        clear hb
        go_wp2_with fail
        go_ret
        exact ⟨by rw [HF.out]; rfl, HBE.out⟩
  · have h16i : (16 : Int) < (xs.length : Int) := by omega
    have HF := Lib.hid (show rowOk xs = false by unfold rowOk; simp [h16])
    clear hx hok h16
    go_enter Try.func60, Try.ntmps60
    go_wp2_with fail
    go_ret
    exact ⟨by rw [HF.out]; rfl, Below.refl _ _⟩

/-- A message no piece of which is greater than any machine bears. -/
structure MBig (m : MailP) : Prop where
  id : Num64 m.id
  key : ∀ v ∈ m.key, VBig v
  fields : ∀ v ∈ m.fields, VBig v
  chan : m.chan.length ≤ 140737488355328
  klen : m.key.length ≤ 281474976710656
  flen : m.fields.length ≤ 281474976710656
theorem MBig.in_ {m : MailP} (h : MBig m) : MIn m := ⟨h.id, fun v hv => (h.key v hv).in_, fun v hv => (h.fields v hv).in_, h.klen, h.flen⟩
theorem mailB_len (m : MailP) (h : MBig m) (hk : m.key.length ≤ 40) (hf : m.fields.length ≤ 40) : (mailB m).length ≤ 15000000000000000 := by
  have h1 := rowB_len m.key h.key hk
  have h2 := rowB_len m.fields h.fields hf
  have h3 := txtB_len m.chan
  have h4 := h.chan
  have h5 := numB_len m.id
  unfold mailB
  simp only [List.length_append]
  omega

set_option maxRecDepth 100000 in
set_option maxHeartbeats 8000000 in
theorem rmail_any (m : MailP) (hm : MBig m) (hk : m.key.length ≤ 40) (hf : m.fields.length ≤ 40) (ka : Option Addr) (kc : Nat) (fa : Option Addr) (fc : Nat) (w : World) (hka : ValsAt w ka m.key) (hfa : ValsAt w fa m.fields) :
    Calls Try.prog 18 #[.agg #[.int .i64 m.id, .string (S m.chan), .slice ka m.key.length kc, .slice fa m.fields.length fc]] w fun e w' => e = .returned (.string (S (mailB m))) ∧ Below w.heap.size w w' := by
  obtain ⟨W0, hW0⟩ : ∃ W0, W0 = w.alloc (.cells #[.int .i64 m.id, .string (S m.chan), .slice ka m.key.length kc, .slice fa m.fields.length fc] 27) := ⟨_, rfl⟩
  have hb : Below w.heap.size w W0 := by rw [hW0]; exact (Below.refl w.heap.size w).alloc (Nat.le_refl _) _
  have hbx : W0.heap[w.heap.size]? = some (.cells #[.int .i64 m.id, .string (S m.chan), .slice ka m.key.length kc, .slice fa m.fields.length fc] 27 (0, 0)) := by rw [hW0]; exact heap_alloc_new w _
  have HC0 := Lib.hid (show ∀ W, Good W0 W → Calls Try.prog 55 #[.int .i64 m.id] W fun e w' => e = .returned (.string (S (numB m.id))) ∧ Good W0 w' from fun W kk => by
    refine (refNumber_any (m.id) hm.id.lo (by have := hm.id.hi; omega) W).mono ?_
    rintro e w' ⟨rfl, b⟩
    exact ⟨rfl, kk.step b⟩)
  have HC1 := Lib.hid (show ∀ W, Good W0 W → Calls Try.prog 56 #[.string (S m.chan)] W fun e w' => e = .returned (.string (S (txtB m.chan))) ∧ Good W0 w' from fun W kk => by
    refine (rtext_big m.chan hm.chan W).mono ?_
    rintro e w' ⟨rfl, b⟩
    exact ⟨rfl, kk.step b⟩)
  have HC2 := Lib.hid (show ∀ W, Good W0 W → Calls Try.prog 59 #[.slice ka m.key.length kc] W fun e w' => e = .returned (.string (S (rowB m.key))) ∧ Good W0 w' from fun W kk => by
    refine (rrow_any m.key hm.key hk ka kc W ((hka.below hb).below kk)).mono ?_
    rintro e w' ⟨rfl, b⟩
    exact ⟨rfl, kk.step b⟩)
  have HC3 := Lib.hid (show ∀ W, Good W0 W → Calls Try.prog 59 #[.slice fa m.fields.length fc] W fun e w' => e = .returned (.string (S (rowB m.fields))) ∧ Good W0 w' from fun W kk => by
    refine (rrow_any m.fields hm.fields hf fa fc W ((hfa.below hb).below kk)).mono ?_
    rintro e w' ⟨rfl, b⟩
    exact ⟨rfl, kk.step b⟩)
  have hadd1 := fun w => add_S (numB m.id) (txtB m.chan) (by have h1 := rowB_len m.key hm.key hk; have h2 := rowB_len m.fields hm.fields hf; have h3 := txtB_len m.chan; have h4 := hm.chan; have h5 := numB_len m.id; (try simp only [List.length_append]); omega) w
  have hadd2 := fun w => add_S (numB m.id ++ txtB m.chan) (rowB m.key) (by have h1 := rowB_len m.key hm.key hk; have h2 := rowB_len m.fields hm.fields hf; have h3 := txtB_len m.chan; have h4 := hm.chan; have h5 := numB_len m.id; (try simp only [List.length_append]); omega) w
  have hadd3 := fun w => add_S (numB m.id ++ txtB m.chan ++ rowB m.key) (rowB m.fields) (by have h1 := rowB_len m.key hm.key hk; have h2 := rowB_len m.fields hm.fields hf; have h3 := txtB_len m.chan; have h4 := hm.chan; have h5 := numB_len m.id; (try simp only [List.length_append]); omega) w
  have HKEEP := Lib.hid (fun w7 (kk : Good W0 w7) => show w7.cell? ⟨w.heap.size, 0, none⟩ = some (.int .i64 m.id) ∧ w7.cell? ⟨w.heap.size, 1, none⟩ = some (.string (S m.chan)) ∧ w7.cell? ⟨w.heap.size, 2, none⟩ = some (.slice ka m.key.length kc) ∧ w7.cell? ⟨w.heap.size, 3, none⟩ = some (.slice fa m.fields.length fc) from
    ⟨cell_of_row w7 w.heap.size 0 _ _ (0, 0) ((kk.block w.heap.size (lt_of_heapV hbx)).trans hbx), cell_of_row w7 w.heap.size 1 _ _ (0, 0) ((kk.block w.heap.size (lt_of_heapV hbx)).trans hbx), cell_of_row w7 w.heap.size 2 _ _ (0, 0) ((kk.block w.heap.size (lt_of_heapV hbx)).trans hbx), cell_of_row w7 w.heap.size 3 _ _ (0, 0) ((kk.block w.heap.size (lt_of_heapV hbx)).trans hbx)⟩)
  have HS0 := Lib.hid (HKEEP.out W0.drew (Good.refl W0).drew)
  have HG0 := Lib.hid (Good.refl W0)
  have HFIN := Lib.hid (fun (wr : World) (h : Good W0 wr) => hb.trans (h.mono hb.size))
  have HW0 := Lib.hid hW0
  have HR := Lib.hid (show mailB m = numB m.id ++ txtB m.chan ++ rowB m.key ++ rowB m.fields from rfl)
  clear hb hbx hW0 hm hk hf hka hfa
  generalize hA : S (numB m.id ++ txtB m.chan ++ rowB m.key ++ rowB m.fields) = AA at *
  have HA := Lib.hid hA
  clear hA
  generalize S (numB m.id ++ txtB m.chan ++ rowB m.key) = A2 at *
  generalize S (numB m.id ++ txtB m.chan) = A1 at *
  generalize S (numB m.id) = D0 at *
  generalize S (txtB m.chan) = D1 at *
  generalize S (rowB m.key) = D2 at *
  generalize S (rowB m.fields) = D3 at *
  go_enter Try.func18, Try.ntmps18
  go_wp2_with fail
  rw [← HW0.out]
  go_region_held3 (fun w7 => w7.cell? ⟨w.heap.size, 0, none⟩ = some (.int .i64 m.id) ∧ w7.cell? ⟨w.heap.size, 1, none⟩ = some (.string (S m.chan)) ∧ w7.cell? ⟨w.heap.size, 2, none⟩ = some (.slice ka m.key.length kc) ∧ w7.cell? ⟨w.heap.size, 3, none⟩ = some (.slice fa m.fields.length fc))
    (first | assumption | exact HS0.out | exact HK7.out)
    (first
    | (go_at_call 55; with_reducible refine (HC0.out _ (by first | exact good_id (by assumption) | exact good_drew (by assumption))).mono ?_; rintro e w7 ⟨rfl, b7⟩; have HG7 := Lib.hid b7; have HK7 := Lib.hid (HKEEP.out _ b7); clear b7)
    | (go_at_call 56; with_reducible refine (HC1.out _ (by first | exact good_id (by assumption) | exact good_drew (by assumption))).mono ?_; rintro e w7 ⟨rfl, b7⟩; have HG7 := Lib.hid b7; have HK7 := Lib.hid (HKEEP.out _ b7); clear b7)
    | (go_at_call 59; with_reducible refine (HC2.out _ (by first | exact good_id (by assumption) | exact good_drew (by assumption))).mono ?_; rintro e w7 ⟨rfl, b7⟩; have HG7 := Lib.hid b7; have HK7 := Lib.hid (HKEEP.out _ b7); clear b7)
    | (go_at_call 59; with_reducible refine (HC3.out _ (by first | exact good_id (by assumption) | exact good_drew (by assumption))).mono ?_; rintro e w7 ⟨rfl, b7⟩; have HG7 := Lib.hid b7; have HK7 := Lib.hid (HKEEP.out _ b7); clear b7))
  all_goals
    go_wp2_with fail
    go_ret
    exact ⟨by rw [HR.out, HA.out]; rfl, HFIN.out _ (by first | exact good_id (by assumption) | exact good_drew (by assumption))⟩

set_option maxRecDepth 100000 in
set_option maxHeartbeats 8000000 in
theorem rdead_any (x : DeadP) (hn : Num64 x.n) (hr : Num64 x.reason) (hm : MBig x.mail) (hk : x.mail.key.length ≤ 40) (hf : x.mail.fields.length ≤ 40) (ka : Option Addr) (kc : Nat) (fa : Option Addr) (fc : Nat) (w : World) (hka : ValsAt w ka x.mail.key) (hfa : ValsAt w fa x.mail.fields) :
    Calls Try.prog 25 #[.agg #[.int .i64 x.n, .int .i64 x.mail.id, .string (S x.mail.chan), .slice ka x.mail.key.length kc, .slice fa x.mail.fields.length fc, .int .i64 x.reason]] w fun e w' => e = .returned (.string (S (deadB x))) ∧ Below w.heap.size w w' := by
  obtain ⟨W0, hW0⟩ : ∃ W0, W0 = w.alloc (.cells #[.int .i64 x.n, .int .i64 x.mail.id, .string (S x.mail.chan), .slice ka x.mail.key.length kc, .slice fa x.mail.fields.length fc, .int .i64 x.reason] 48) := ⟨_, rfl⟩
  have hb : Below w.heap.size w W0 := by rw [hW0]; exact (Below.refl w.heap.size w).alloc (Nat.le_refl _) _
  have hbx : W0.heap[w.heap.size]? = some (.cells #[.int .i64 x.n, .int .i64 x.mail.id, .string (S x.mail.chan), .slice ka x.mail.key.length kc, .slice fa x.mail.fields.length fc, .int .i64 x.reason] 48 (0, 0)) := by rw [hW0]; exact heap_alloc_new w _
  have hcnt : ∀ W, Calls Try.prog 57 #[.int .u64 (IntKind.u64.wrap x.reason)] W fun e w' => e = .returned (.string (S (cntI x.reason))) ∧ Below W.heap.size W w' := fun W => by
    rw [show IntKind.u64.wrap x.reason = x.reason % 18446744073709551616 by simp only [IntKind.wrap_u64]]
    exact refCount_int _ (by omega) (by omega) W
  have HC0 := Lib.hid (show ∀ W, Good W0 W → Calls Try.prog 55 #[.int .i64 x.n] W fun e w' => e = .returned (.string (S (numB x.n))) ∧ Good W0 w' from fun W kk => by
    refine (refNumber_any (x.n) hn.lo (by have := hn.hi; omega) W).mono ?_
    rintro e w' ⟨rfl, b⟩
    exact ⟨rfl, kk.step b⟩)
  have HC1 := Lib.hid (show ∀ W, Good W0 W → Calls Try.prog 18 #[.agg #[.int .i64 x.mail.id, .string (S x.mail.chan), .slice ka x.mail.key.length kc, .slice fa x.mail.fields.length fc]] W fun e w' => e = .returned (.string (S (mailB x.mail))) ∧ Good W0 w' from fun W kk => by
    refine (rmail_any x.mail hm hk hf ka kc fa fc W ((hka.below hb).below kk) ((hfa.below hb).below kk)).mono ?_
    rintro e w' ⟨rfl, b⟩
    exact ⟨rfl, kk.step b⟩)
  have HC2 := Lib.hid (show ∀ W, Good W0 W → Calls Try.prog 57 #[.int .u64 (IntKind.u64.wrap x.reason)] W fun e w' => e = .returned (.string (S (cntI x.reason))) ∧ Good W0 w' from fun W kk => by
    refine (hcnt W).mono ?_
    rintro e w' ⟨rfl, b⟩
    exact ⟨rfl, kk.step b⟩)
  have hadd1 := fun w => add_S (numB x.n) (mailB x.mail) (by have h1 := mailB_len x.mail hm hk hf; have h5 := numB_len x.n; have h6 := cntI_len x.reason; (try simp only [List.length_append]); omega) w
  have hadd2 := fun w => add_S (numB x.n ++ mailB x.mail) (cntI x.reason) (by have h1 := mailB_len x.mail hm hk hf; have h5 := numB_len x.n; have h6 := cntI_len x.reason; (try simp only [List.length_append]); omega) w
  have HKEEP := Lib.hid (fun w7 (kk : Good W0 w7) => show w7.cell? ⟨w.heap.size, 0, none⟩ = some (.int .i64 x.n) ∧ w7.cell? ⟨w.heap.size, 1, none⟩ = some (.int .i64 x.mail.id) ∧ w7.cell? ⟨w.heap.size, 2, none⟩ = some (.string (S x.mail.chan)) ∧ w7.cell? ⟨w.heap.size, 3, none⟩ = some (.slice ka x.mail.key.length kc) ∧ w7.cell? ⟨w.heap.size, 4, none⟩ = some (.slice fa x.mail.fields.length fc) ∧ w7.cell? ⟨w.heap.size, 5, none⟩ = some (.int .i64 x.reason) from
    ⟨cell_of_row w7 w.heap.size 0 _ _ (0, 0) ((kk.block w.heap.size (lt_of_heapV hbx)).trans hbx), cell_of_row w7 w.heap.size 1 _ _ (0, 0) ((kk.block w.heap.size (lt_of_heapV hbx)).trans hbx), cell_of_row w7 w.heap.size 2 _ _ (0, 0) ((kk.block w.heap.size (lt_of_heapV hbx)).trans hbx), cell_of_row w7 w.heap.size 3 _ _ (0, 0) ((kk.block w.heap.size (lt_of_heapV hbx)).trans hbx), cell_of_row w7 w.heap.size 4 _ _ (0, 0) ((kk.block w.heap.size (lt_of_heapV hbx)).trans hbx), cell_of_row w7 w.heap.size 5 _ _ (0, 0) ((kk.block w.heap.size (lt_of_heapV hbx)).trans hbx)⟩)
  have HS0 := Lib.hid (HKEEP.out W0.drew (Good.refl W0).drew)
  have HG0 := Lib.hid (Good.refl W0)
  have HFIN := Lib.hid (fun (wr : World) (h : Good W0 wr) => hb.trans (h.mono hb.size))
  have HW0 := Lib.hid hW0
  have HR := Lib.hid (show deadB x = numB x.n ++ mailB x.mail ++ cntI x.reason from rfl)
  clear hb hbx hW0 hm hk hf hka hfa hn hr hcnt
  generalize hA : S (numB x.n ++ mailB x.mail ++ cntI x.reason) = AA at *
  have HA := Lib.hid hA
  clear hA
  generalize S (numB x.n ++ mailB x.mail) = A1 at *
  generalize S (numB x.n) = D0 at *
  generalize S (mailB x.mail) = D1 at *
  generalize S (cntI x.reason) = D2 at *
  go_enter Try.func25, Try.ntmps25
  go_wp2_with fail
  rw [← HW0.out]
  go_region_held3 (fun w7 => w7.cell? ⟨w.heap.size, 0, none⟩ = some (.int .i64 x.n) ∧ w7.cell? ⟨w.heap.size, 1, none⟩ = some (.int .i64 x.mail.id) ∧ w7.cell? ⟨w.heap.size, 2, none⟩ = some (.string (S x.mail.chan)) ∧ w7.cell? ⟨w.heap.size, 3, none⟩ = some (.slice ka x.mail.key.length kc) ∧ w7.cell? ⟨w.heap.size, 4, none⟩ = some (.slice fa x.mail.fields.length fc) ∧ w7.cell? ⟨w.heap.size, 5, none⟩ = some (.int .i64 x.reason))
    (first | assumption | exact HS0.out | exact HK7.out)
    (first
    | (go_at_call 55; with_reducible refine (HC0.out _ (by first | exact good_id (by assumption) | exact good_drew (by assumption))).mono ?_; rintro e w7 ⟨rfl, b7⟩; have HG7 := Lib.hid b7; have HK7 := Lib.hid (HKEEP.out _ b7); clear b7)
    | (go_at_call 18; with_reducible refine (HC1.out _ (by first | exact good_id (by assumption) | exact good_drew (by assumption))).mono ?_; rintro e w7 ⟨rfl, b7⟩; have HG7 := Lib.hid b7; have HK7 := Lib.hid (HKEEP.out _ b7); clear b7)
    | (go_at_call 57; with_reducible refine (HC2.out _ (by first | exact good_id (by assumption) | exact good_drew (by assumption))).mono ?_; rintro e w7 ⟨rfl, b7⟩; have HG7 := Lib.hid b7; have HK7 := Lib.hid (HKEEP.out _ b7); clear b7))
  all_goals
    go_wp2_with fail
    go_ret
    exact ⟨by rw [HR.out, HA.out]; rfl, HFIN.out _ (by first | exact good_id (by assumption) | exact good_drew (by assumption))⟩

set_option maxRecDepth 100000 in
set_option maxHeartbeats 8000000 in
theorem revent_any (x : EventP) (h1 : Num64 x.n) (h2 : Num64 x.tick) (h3 : Num64 x.item) (t1 : x.name.length ≤ 140737488355328) (t2 : x.typ.length ≤ 140737488355328) (t3 : x.state.length ≤ 140737488355328) (hv : ∀ v ∈ x.attrs, VBig v) (hlv : x.attrs.length ≤ 40) (aa : Option Addr) (ac : Nat) (w : World) (hat : ValsAt w aa x.attrs) :
    Calls Try.prog 27 #[.agg #[.int .i64 x.n, .int .i64 x.tick, .string (S x.name), .int .i64 x.item, .string (S x.typ), .string (S x.state), .slice aa x.attrs.length ac]] w fun e w' => e = .returned (.string (S (eventB x))) ∧ Below w.heap.size w w' := by
  obtain ⟨W0, hW0⟩ : ∃ W0, W0 = w.alloc (.cells #[.int .i64 x.n, .int .i64 x.tick, .string (S x.name), .int .i64 x.item, .string (S x.typ), .string (S x.state), .slice aa x.attrs.length ac] 50) := ⟨_, rfl⟩
  have hb : Below w.heap.size w W0 := by rw [hW0]; exact (Below.refl w.heap.size w).alloc (Nat.le_refl _) _
  have hbx : W0.heap[w.heap.size]? = some (.cells #[.int .i64 x.n, .int .i64 x.tick, .string (S x.name), .int .i64 x.item, .string (S x.typ), .string (S x.state), .slice aa x.attrs.length ac] 50 (0, 0)) := by rw [hW0]; exact heap_alloc_new w _
  have HC0 := Lib.hid (show ∀ W, Good W0 W → Calls Try.prog 55 #[.int .i64 x.n] W fun e w' => e = .returned (.string (S (numB x.n))) ∧ Good W0 w' from fun W kk => by
    refine (refNumber_any (x.n) h1.lo (by have := h1.hi; omega) W).mono ?_
    rintro e w' ⟨rfl, b⟩
    exact ⟨rfl, kk.step b⟩)
  have HC1 := Lib.hid (show ∀ W, Good W0 W → Calls Try.prog 55 #[.int .i64 x.tick] W fun e w' => e = .returned (.string (S (numB x.tick))) ∧ Good W0 w' from fun W kk => by
    refine (refNumber_any (x.tick) h2.lo (by have := h2.hi; omega) W).mono ?_
    rintro e w' ⟨rfl, b⟩
    exact ⟨rfl, kk.step b⟩)
  have HC2 := Lib.hid (show ∀ W, Good W0 W → Calls Try.prog 55 #[.int .i64 x.item] W fun e w' => e = .returned (.string (S (numB x.item))) ∧ Good W0 w' from fun W kk => by
    refine (refNumber_any (x.item) h3.lo (by have := h3.hi; omega) W).mono ?_
    rintro e w' ⟨rfl, b⟩
    exact ⟨rfl, kk.step b⟩)
  have HC3 := Lib.hid (show ∀ W, Good W0 W → Calls Try.prog 56 #[.string (S x.name)] W fun e w' => e = .returned (.string (S (txtB x.name))) ∧ Good W0 w' from fun W kk => by
    refine (rtext_big x.name t1 W).mono ?_
    rintro e w' ⟨rfl, b⟩
    exact ⟨rfl, kk.step b⟩)
  have HC4 := Lib.hid (show ∀ W, Good W0 W → Calls Try.prog 56 #[.string (S x.typ)] W fun e w' => e = .returned (.string (S (txtB x.typ))) ∧ Good W0 w' from fun W kk => by
    refine (rtext_big x.typ t2 W).mono ?_
    rintro e w' ⟨rfl, b⟩
    exact ⟨rfl, kk.step b⟩)
  have HC5 := Lib.hid (show ∀ W, Good W0 W → Calls Try.prog 56 #[.string (S x.state)] W fun e w' => e = .returned (.string (S (txtB x.state))) ∧ Good W0 w' from fun W kk => by
    refine (rtext_big x.state t3 W).mono ?_
    rintro e w' ⟨rfl, b⟩
    exact ⟨rfl, kk.step b⟩)
  have HC6 := Lib.hid (show ∀ W, Good W0 W → Calls Try.prog 59 #[.slice aa x.attrs.length ac] W fun e w' => e = .returned (.string (S (rowB x.attrs))) ∧ Good W0 w' from fun W kk => by
    refine (rrow_any x.attrs hv hlv aa ac W ((hat.below hb).below kk)).mono ?_
    rintro e w' ⟨rfl, b⟩
    exact ⟨rfl, kk.step b⟩)
  have hadd1 := fun w => add_S (numB x.n) (numB x.tick) (by have l1 := numB_len x.n; have l2 := numB_len x.tick; have l3 := numB_len x.item; have l4 := txtB_len x.name; have l5 := txtB_len x.typ; have l6 := txtB_len x.state; have l7 := rowB_len x.attrs hv hlv; (try simp only [List.length_append]); omega) w
  have hadd2 := fun w => add_S (numB x.n ++ numB x.tick) (numB x.item) (by have l1 := numB_len x.n; have l2 := numB_len x.tick; have l3 := numB_len x.item; have l4 := txtB_len x.name; have l5 := txtB_len x.typ; have l6 := txtB_len x.state; have l7 := rowB_len x.attrs hv hlv; (try simp only [List.length_append]); omega) w
  have hadd3 := fun w => add_S (numB x.n ++ numB x.tick ++ numB x.item) (txtB x.name) (by have l1 := numB_len x.n; have l2 := numB_len x.tick; have l3 := numB_len x.item; have l4 := txtB_len x.name; have l5 := txtB_len x.typ; have l6 := txtB_len x.state; have l7 := rowB_len x.attrs hv hlv; (try simp only [List.length_append]); omega) w
  have hadd4 := fun w => add_S (numB x.n ++ numB x.tick ++ numB x.item ++ txtB x.name) (txtB x.typ) (by have l1 := numB_len x.n; have l2 := numB_len x.tick; have l3 := numB_len x.item; have l4 := txtB_len x.name; have l5 := txtB_len x.typ; have l6 := txtB_len x.state; have l7 := rowB_len x.attrs hv hlv; (try simp only [List.length_append]); omega) w
  have hadd5 := fun w => add_S (numB x.n ++ numB x.tick ++ numB x.item ++ txtB x.name ++ txtB x.typ) (txtB x.state) (by have l1 := numB_len x.n; have l2 := numB_len x.tick; have l3 := numB_len x.item; have l4 := txtB_len x.name; have l5 := txtB_len x.typ; have l6 := txtB_len x.state; have l7 := rowB_len x.attrs hv hlv; (try simp only [List.length_append]); omega) w
  have hadd6 := fun w => add_S (numB x.n ++ numB x.tick ++ numB x.item ++ txtB x.name ++ txtB x.typ ++ txtB x.state) (rowB x.attrs) (by have l1 := numB_len x.n; have l2 := numB_len x.tick; have l3 := numB_len x.item; have l4 := txtB_len x.name; have l5 := txtB_len x.typ; have l6 := txtB_len x.state; have l7 := rowB_len x.attrs hv hlv; (try simp only [List.length_append]); omega) w
  have HKEEP := Lib.hid (fun w7 (kk : Good W0 w7) => show w7.cell? ⟨w.heap.size, 0, none⟩ = some (.int .i64 x.n) ∧ w7.cell? ⟨w.heap.size, 1, none⟩ = some (.int .i64 x.tick) ∧ w7.cell? ⟨w.heap.size, 2, none⟩ = some (.string (S x.name)) ∧ w7.cell? ⟨w.heap.size, 3, none⟩ = some (.int .i64 x.item) ∧ w7.cell? ⟨w.heap.size, 4, none⟩ = some (.string (S x.typ)) ∧ w7.cell? ⟨w.heap.size, 5, none⟩ = some (.string (S x.state)) ∧ w7.cell? ⟨w.heap.size, 6, none⟩ = some (.slice aa x.attrs.length ac) from
    ⟨cell_of_row w7 w.heap.size 0 _ _ (0, 0) ((kk.block w.heap.size (lt_of_heapV hbx)).trans hbx), cell_of_row w7 w.heap.size 1 _ _ (0, 0) ((kk.block w.heap.size (lt_of_heapV hbx)).trans hbx), cell_of_row w7 w.heap.size 2 _ _ (0, 0) ((kk.block w.heap.size (lt_of_heapV hbx)).trans hbx), cell_of_row w7 w.heap.size 3 _ _ (0, 0) ((kk.block w.heap.size (lt_of_heapV hbx)).trans hbx), cell_of_row w7 w.heap.size 4 _ _ (0, 0) ((kk.block w.heap.size (lt_of_heapV hbx)).trans hbx), cell_of_row w7 w.heap.size 5 _ _ (0, 0) ((kk.block w.heap.size (lt_of_heapV hbx)).trans hbx), cell_of_row w7 w.heap.size 6 _ _ (0, 0) ((kk.block w.heap.size (lt_of_heapV hbx)).trans hbx)⟩)
  have HS0 := Lib.hid (HKEEP.out W0.drew (Good.refl W0).drew)
  have HG0 := Lib.hid (Good.refl W0)
  have HFIN := Lib.hid (fun (wr : World) (h : Good W0 wr) => hb.trans (h.mono hb.size))
  have HW0 := Lib.hid hW0
  have HR := Lib.hid (show eventB x = numB x.n ++ numB x.tick ++ numB x.item ++ txtB x.name ++ txtB x.typ ++ txtB x.state ++ rowB x.attrs from rfl)
  clear hb hbx hW0 h1 h2 h3 t1 t2 t3 hv hlv hat
  generalize hA : S (numB x.n ++ numB x.tick ++ numB x.item ++ txtB x.name ++ txtB x.typ ++ txtB x.state ++ rowB x.attrs) = AA at *
  have HA := Lib.hid hA
  clear hA
  generalize S (numB x.n ++ numB x.tick ++ numB x.item ++ txtB x.name ++ txtB x.typ ++ txtB x.state) = A5 at *
  generalize S (numB x.n ++ numB x.tick ++ numB x.item ++ txtB x.name ++ txtB x.typ) = A4 at *
  generalize S (numB x.n ++ numB x.tick ++ numB x.item ++ txtB x.name) = A3 at *
  generalize S (numB x.n ++ numB x.tick ++ numB x.item) = A2 at *
  generalize S (numB x.n ++ numB x.tick) = A1 at *
  generalize S (numB x.n) = D0 at *
  generalize S (numB x.tick) = D1 at *
  generalize S (numB x.item) = D2 at *
  generalize S (txtB x.name) = D3 at *
  generalize S (txtB x.typ) = D4 at *
  generalize S (txtB x.state) = D5 at *
  generalize S (rowB x.attrs) = D6 at *
  go_enter Try.func27, Try.ntmps27
  go_wp2_with fail
  rw [← HW0.out]
  go_region_held3 (fun w7 => w7.cell? ⟨w.heap.size, 0, none⟩ = some (.int .i64 x.n) ∧ w7.cell? ⟨w.heap.size, 1, none⟩ = some (.int .i64 x.tick) ∧ w7.cell? ⟨w.heap.size, 2, none⟩ = some (.string (S x.name)) ∧ w7.cell? ⟨w.heap.size, 3, none⟩ = some (.int .i64 x.item) ∧ w7.cell? ⟨w.heap.size, 4, none⟩ = some (.string (S x.typ)) ∧ w7.cell? ⟨w.heap.size, 5, none⟩ = some (.string (S x.state)) ∧ w7.cell? ⟨w.heap.size, 6, none⟩ = some (.slice aa x.attrs.length ac))
    (first | assumption | exact HS0.out | exact HK7.out)
    (first
    | (go_at_call 55; with_reducible refine (HC0.out _ (by first | exact good_id (by assumption) | exact good_drew (by assumption))).mono ?_; rintro e w7 ⟨rfl, b7⟩; have HG7 := Lib.hid b7; have HK7 := Lib.hid (HKEEP.out _ b7); clear b7)
    | (go_at_call 55; with_reducible refine (HC1.out _ (by first | exact good_id (by assumption) | exact good_drew (by assumption))).mono ?_; rintro e w7 ⟨rfl, b7⟩; have HG7 := Lib.hid b7; have HK7 := Lib.hid (HKEEP.out _ b7); clear b7)
    | (go_at_call 55; with_reducible refine (HC2.out _ (by first | exact good_id (by assumption) | exact good_drew (by assumption))).mono ?_; rintro e w7 ⟨rfl, b7⟩; have HG7 := Lib.hid b7; have HK7 := Lib.hid (HKEEP.out _ b7); clear b7)
    | (go_at_call 56; with_reducible refine (HC3.out _ (by first | exact good_id (by assumption) | exact good_drew (by assumption))).mono ?_; rintro e w7 ⟨rfl, b7⟩; have HG7 := Lib.hid b7; have HK7 := Lib.hid (HKEEP.out _ b7); clear b7)
    | (go_at_call 56; with_reducible refine (HC4.out _ (by first | exact good_id (by assumption) | exact good_drew (by assumption))).mono ?_; rintro e w7 ⟨rfl, b7⟩; have HG7 := Lib.hid b7; have HK7 := Lib.hid (HKEEP.out _ b7); clear b7)
    | (go_at_call 56; with_reducible refine (HC5.out _ (by first | exact good_id (by assumption) | exact good_drew (by assumption))).mono ?_; rintro e w7 ⟨rfl, b7⟩; have HG7 := Lib.hid b7; have HK7 := Lib.hid (HKEEP.out _ b7); clear b7)
    | (go_at_call 59; with_reducible refine (HC6.out _ (by first | exact good_id (by assumption) | exact good_drew (by assumption))).mono ?_; rintro e w7 ⟨rfl, b7⟩; have HG7 := Lib.hid b7; have HK7 := Lib.hid (HKEEP.out _ b7); clear b7))
  all_goals
    go_wp2_with fail
    go_ret
    exact ⟨by rw [HR.out, HA.out]; rfl, HFIN.out _ (by first | exact good_id (by assumption) | exact good_drew (by assumption))⟩

set_option maxRecDepth 100000 in
set_option maxHeartbeats 8000000 in
theorem rsub_any (x : SubP) (h1 : Num64 x.id) (h2 : Num64 x.past) (t1 : x.role.length ≤ 140737488355328) (w : World) :
    Calls Try.prog 29 #[.agg #[.int .i64 x.id, .string (S x.role), .int .i64 x.past]] w fun e w' => e = .returned (.string (S (subB x))) ∧ Below w.heap.size w w' := by
  obtain ⟨W0, hW0⟩ : ∃ W0, W0 = w.alloc (.cells #[.int .i64 x.id, .string (S x.role), .int .i64 x.past] 52) := ⟨_, rfl⟩
  have hb : Below w.heap.size w W0 := by rw [hW0]; exact (Below.refl w.heap.size w).alloc (Nat.le_refl _) _
  have hbx : W0.heap[w.heap.size]? = some (.cells #[.int .i64 x.id, .string (S x.role), .int .i64 x.past] 52 (0, 0)) := by rw [hW0]; exact heap_alloc_new w _
  have HC0 := Lib.hid (show ∀ W, Good W0 W → Calls Try.prog 55 #[.int .i64 x.id] W fun e w' => e = .returned (.string (S (numB x.id))) ∧ Good W0 w' from fun W kk => by
    refine (refNumber_any (x.id) h1.lo (by have := h1.hi; omega) W).mono ?_
    rintro e w' ⟨rfl, b⟩
    exact ⟨rfl, kk.step b⟩)
  have HC1 := Lib.hid (show ∀ W, Good W0 W → Calls Try.prog 55 #[.int .i64 x.past] W fun e w' => e = .returned (.string (S (numB x.past))) ∧ Good W0 w' from fun W kk => by
    refine (refNumber_any (x.past) h2.lo (by have := h2.hi; omega) W).mono ?_
    rintro e w' ⟨rfl, b⟩
    exact ⟨rfl, kk.step b⟩)
  have HC2 := Lib.hid (show ∀ W, Good W0 W → Calls Try.prog 56 #[.string (S x.role)] W fun e w' => e = .returned (.string (S (txtB x.role))) ∧ Good W0 w' from fun W kk => by
    refine (rtext_big x.role t1 W).mono ?_
    rintro e w' ⟨rfl, b⟩
    exact ⟨rfl, kk.step b⟩)
  have hadd1 := fun w => add_S (numB x.id) (numB x.past) (by have l1 := numB_len x.id; have l2 := numB_len x.past; have l4 := txtB_len x.role; (try simp only [List.length_append]); omega) w
  have hadd2 := fun w => add_S (numB x.id ++ numB x.past) (txtB x.role) (by have l1 := numB_len x.id; have l2 := numB_len x.past; have l4 := txtB_len x.role; (try simp only [List.length_append]); omega) w
  have HKEEP := Lib.hid (fun w7 (kk : Good W0 w7) => show w7.cell? ⟨w.heap.size, 0, none⟩ = some (.int .i64 x.id) ∧ w7.cell? ⟨w.heap.size, 1, none⟩ = some (.string (S x.role)) ∧ w7.cell? ⟨w.heap.size, 2, none⟩ = some (.int .i64 x.past) from
    ⟨cell_of_row w7 w.heap.size 0 _ _ (0, 0) ((kk.block w.heap.size (lt_of_heapV hbx)).trans hbx), cell_of_row w7 w.heap.size 1 _ _ (0, 0) ((kk.block w.heap.size (lt_of_heapV hbx)).trans hbx), cell_of_row w7 w.heap.size 2 _ _ (0, 0) ((kk.block w.heap.size (lt_of_heapV hbx)).trans hbx)⟩)
  have HS0 := Lib.hid (HKEEP.out W0.drew (Good.refl W0).drew)
  have HG0 := Lib.hid (Good.refl W0)
  have HFIN := Lib.hid (fun (wr : World) (h : Good W0 wr) => hb.trans (h.mono hb.size))
  have HW0 := Lib.hid hW0
  have HR := Lib.hid (show subB x = numB x.id ++ numB x.past ++ txtB x.role from rfl)
  clear hb hbx hW0 h1 h2 t1
  generalize hA : S (numB x.id ++ numB x.past ++ txtB x.role) = AA at *
  have HA := Lib.hid hA
  clear hA
  generalize S (numB x.id ++ numB x.past) = A1 at *
  generalize S (numB x.id) = D0 at *
  generalize S (numB x.past) = D1 at *
  generalize S (txtB x.role) = D2 at *
  go_enter Try.func29, Try.ntmps29
  go_wp2_with fail
  rw [← HW0.out]
  go_region_held3 (fun w7 => w7.cell? ⟨w.heap.size, 0, none⟩ = some (.int .i64 x.id) ∧ w7.cell? ⟨w.heap.size, 1, none⟩ = some (.string (S x.role)) ∧ w7.cell? ⟨w.heap.size, 2, none⟩ = some (.int .i64 x.past))
    (first | assumption | exact HS0.out | exact HK7.out)
    (first
    | (go_at_call 55; with_reducible refine (HC0.out _ (by first | exact good_id (by assumption) | exact good_drew (by assumption))).mono ?_; rintro e w7 ⟨rfl, b7⟩; have HG7 := Lib.hid b7; have HK7 := Lib.hid (HKEEP.out _ b7); clear b7)
    | (go_at_call 55; with_reducible refine (HC1.out _ (by first | exact good_id (by assumption) | exact good_drew (by assumption))).mono ?_; rintro e w7 ⟨rfl, b7⟩; have HG7 := Lib.hid b7; have HK7 := Lib.hid (HKEEP.out _ b7); clear b7)
    | (go_at_call 56; with_reducible refine (HC2.out _ (by first | exact good_id (by assumption) | exact good_drew (by assumption))).mono ?_; rintro e w7 ⟨rfl, b7⟩; have HG7 := Lib.hid b7; have HK7 := Lib.hid (HKEEP.out _ b7); clear b7))
  all_goals
    go_wp2_with fail
    go_ret
    exact ⟨by rw [HR.out, HA.out]; rfl, HFIN.out _ (by first | exact good_id (by assumption) | exact good_drew (by assumption))⟩

end Go.Proofs.Ytgfgafpaokefhaa.Cd
