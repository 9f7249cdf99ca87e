/-
  The document's own answer whether something may be kept; the law's few and put.
-/
import Derived.Test.YtgfgafpaokefhaaZCdRefB
namespace Go.Proofs.Ytgfgafpaokefhaa.Cd
open Go.RowKit
open Pk Va
set_option linter.unusedVariables false
set_option linter.unusedSimpArgs false

theorem VBig.ok {v : V} (h : VBig v) : VOk v := h.in_.ok

set_option maxRecDepth 100000 in
set_option maxHeartbeats 4000000 in
theorem rrightMail_any (m : MailP) (hm : MBig m) (ka : Option Addr) (kc : Nat) (fa : Option Addr) (fc : Nat) (w : World) (hka : ValsAt w ka m.key) (hfa : ValsAt w fa m.fields) :
    Calls Try.prog 19 #[.agg #[.int .i64 m.id, .string (S m.chan), .slice ka m.key.length kc, .slice fa m.fields.length fc]] w fun e w' => e = .returned (.bool (mailOk m)) ∧ Below w.heap.size w w' := by
  have hb := (Below.refl w.heap.size w).alloc (Nat.le_refl _) (.cells #[.int .i64 m.id, .string (S m.chan), .slice ka m.key.length kc, .slice fa m.fields.length fc] 27)
  have hsz : (S m.chan).size = m.chan.length := S_size _
  have HK := Lib.hid (fun W (k : Below (w.alloc (.cells #[.int .i64 m.id, .string (S m.chan), .slice ka m.key.length kc, .slice fa m.fields.length fc] 27)).heap.size (w.alloc (.cells #[.int .i64 m.id, .string (S m.chan), .slice ka m.key.length kc, .slice fa m.fields.length fc] 27)) W) => rrightRow_any m.key (fun v hv => (hm.key v hv).ok) hm.klen ka kc W ((hka.below hb).below k))
  have HF := Lib.hid (fun W (k : Below (w.alloc (.cells #[.int .i64 m.id, .string (S m.chan), .slice ka m.key.length kc, .slice fa m.fields.length fc] 27)).heap.size (w.alloc (.cells #[.int .i64 m.id, .string (S m.chan), .slice ka m.key.length kc, .slice fa m.fields.length fc] 27)) W) => rrightRow_any m.fields (fun v hv => (hm.fields v hv).ok) hm.flen fa fc W ((hfa.below hb).below k))
  have HX := Lib.hid (heap_alloc_new w (.cells #[.int .i64 m.id, .string (S m.chan), .slice ka m.key.length kc, .slice fa m.fields.length fc] 27))
  have HB := Lib.hid hb
  have HR := Lib.hid (show mailOk m = (nameOk m.chan && rowOk m.key && rowOk m.fields) from rfl)
  have hL := hm.chan
  clear hb hka hfa hm
  by_cases hc : m.chan.length ≤ 24
  · have hn : nameOk m.chan = true := by simp [nameOk, hc]
    have hle : (S m.chan).size ≤ 24 := by omega
    rw [hn, Bool.true_and] at HR
    generalize rowOk m.key = okk at *
    generalize rowOk m.fields = okf at *
    clear hc hn hsz hL
    cases okk with
    | true =>
      go_enter Try.func19, Try.ntmps19
      go_wp2_with fail
      refine (HK.out _ (Below.refl _ _)).mono ?_
      rintro e w1 ⟨rfl, b1⟩
      have p3 : w1.cell? ⟨w.heap.size, 3, none⟩ = some (.slice fa m.fields.length fc) := cell_of_row w1 w.heap.size 3 _ _ (0, 0) ((b1.block _ (by simp)).trans HX.out)
      have B1 := Lib.hid b1
      clear b1
      go_wp2_with fail
      refine (HF.out _ B1.out).mono ?_
      rintro e w2 ⟨rfl, b2⟩
      have HB2 := Lib.hid ((HB.out.trans (B1.out.mono HB.out.size)).trans (b2.mono (Nat.le_trans HB.out.size B1.out.size)))
      clear b2
      go_wp2_with fail
      go_ret
      exact ⟨by rw [HR.out]; rfl, HB2.out⟩
    | false =>
      go_enter Try.func19, Try.ntmps19
      go_wp2_with fail
      refine (HK.out _ (Below.refl _ _)).mono ?_
      rintro e w1 ⟨rfl, b1⟩
      have HB2 := Lib.hid (HB.out.trans (b1.mono HB.out.size))
      clear b1
      go_wp2_with fail
      go_ret
      exact ⟨by rw [HR.out]; rfl, HB2.out⟩
  · have hn : nameOk m.chan = false := by simpa [nameOk] using hc
    have hle : ¬ ((S m.chan).size : Int) ≤ 24 := by omega
    rw [hn] at HR
    clear hc hn hsz hL
    go_enter Try.func19, Try.ntmps19
    go_wp2_with fail
    go_ret
    exact ⟨by rw [HR.out]; rfl, HB.out⟩

set_option maxRecDepth 100000 in
set_option maxHeartbeats 4000000 in
theorem rrightDead_any (x : DeadP) (hm : MBig x.mail) (ka : Option Addr) (kc : Nat) (fa : Option Addr) (fc : Nat) (w : World) (hka : ValsAt w ka x.mail.key) (hfa : ValsAt w fa x.mail.fields) :
    Calls Try.prog 26 #[.agg #[.int .i64 x.n, .int .i64 x.mail.id, .string (S x.mail.chan), .slice ka x.mail.key.length kc, .slice fa x.mail.fields.length fc, .int .i64 x.reason]] w fun e w' => e = .returned (.bool (deadOk x)) ∧ Below w.heap.size w w' := by
  have hb := (Below.refl w.heap.size w).alloc (Nat.le_refl _) (.cells #[.int .i64 x.n, .int .i64 x.mail.id, .string (S x.mail.chan), .slice ka x.mail.key.length kc, .slice fa x.mail.fields.length fc, .int .i64 x.reason] 48)
  have HK := Lib.hid (rrightMail_any x.mail hm ka kc fa fc _ (hka.below hb) (hfa.below hb))
  have HX := Lib.hid (heap_alloc_new w (.cells #[.int .i64 x.n, .int .i64 x.mail.id, .string (S x.mail.chan), .slice ka x.mail.key.length kc, .slice fa x.mail.fields.length fc, .int .i64 x.reason] 48))
  have HB := Lib.hid hb
  have HR := Lib.hid (show deadOk x = (mailOk x.mail && decide (0 ≤ x.reason ∧ x.reason ≤ 5)) from rfl)
  clear hb hka hfa hm
  generalize mailOk x.mail = okm at *
  generalize x.reason = rs at *
  cases okm with
  | true =>
    rw [Bool.true_and] at HR
    have HD : decide (0 ≤ rs ∧ rs ≤ 5) = (decide (0 ≤ rs) && decide (rs ≤ 5)) := by rw [Bool.decide_and]
    rw [HD] at HR
    clear HD
    by_cases h0 : 0 ≤ rs
    · rw [decide_eq_true h0, Bool.true_and] at HR
      go_enter Try.func26, Try.ntmps26
      go_wp2_with fail
      refine HK.out.mono ?_
      rintro e w1 ⟨rfl, b1⟩
      have p5 : w1.cell? ⟨w.heap.size, 5, none⟩ = some (.int .i64 rs) := cell_of_row w1 w.heap.size 5 _ _ (0, 0) ((b1.block _ (by simp)).trans HX.out)
      have HB2 := Lib.hid (HB.out.trans (b1.mono HB.out.size))
      clear b1
      go_wp2_with fail
      go_ret
      exact ⟨by rw [HR.out]; rfl, HB2.out⟩
    · rw [decide_eq_false h0, Bool.false_and] at HR
      go_enter Try.func26, Try.ntmps26
      go_wp2_with fail
      refine HK.out.mono ?_
      rintro e w1 ⟨rfl, b1⟩
      have p5 : w1.cell? ⟨w.heap.size, 5, none⟩ = some (.int .i64 rs) := cell_of_row w1 w.heap.size 5 _ _ (0, 0) ((b1.block _ (by simp)).trans HX.out)
      have HB2 := Lib.hid (HB.out.trans (b1.mono HB.out.size))
      clear b1
      go_wp2_with fail
      go_ret
      exact ⟨by rw [HR.out]; rfl, HB2.out⟩
  | false =>
    rw [Bool.false_and] at HR
    go_enter Try.func26, Try.ntmps26
    go_wp2_with fail
    refine HK.out.mono ?_
    rintro e w1 ⟨rfl, b1⟩
    have HB2 := Lib.hid (HB.out.trans (b1.mono HB.out.size))
    clear b1
    go_wp2_with fail
    go_ret
    exact ⟨by rw [HR.out]; rfl, HB2.out⟩

theorem nameOk_le {t : List UInt8} (h : t.length ≤ 24) : nameOk t = true ∧ ((S t).size : Int) ≤ 24 := ⟨by simp [nameOk, h], by rw [S_size]; omega⟩
theorem nameOk_gt {t : List UInt8} (h : ¬ t.length ≤ 24) : nameOk t = false ∧ ¬ ((S t).size : Int) ≤ 24 := ⟨by simpa [nameOk] using h, by rw [S_size]; omega⟩

set_option maxRecDepth 100000 in
set_option maxHeartbeats 4000000 in
theorem rrightEvent_any (x : EventP) (hv : ∀ v ∈ x.attrs, VOk v) (hlv : x.attrs.length ≤ 281474976710656) (aa : Option Addr) (ac : Nat) (w : World) (hat : ValsAt w aa x.attrs) :
    Calls Try.prog 28 #[.agg #[.int .i64 x.n, .int .i64 x.tick, .string (S x.name), .int .i64 x.item, .string (S x.typ), .string (S x.state), .slice aa x.attrs.length ac]] w fun e w' => e = .returned (.bool (eventOk x)) ∧ Below w.heap.size w w' := by
  have hb := (Below.refl w.heap.size w).alloc (Nat.le_refl _) (.cells #[.int .i64 x.n, .int .i64 x.tick, .string (S x.name), .int .i64 x.item, .string (S x.typ), .string (S x.state), .slice aa x.attrs.length ac] 50)
  have HK := Lib.hid (rrightRow_any x.attrs hv hlv aa ac _ (hat.below hb))
  have HB := Lib.hid hb
  have HR := Lib.hid (show eventOk x = (nameOk x.name && nameOk x.typ && nameOk x.state && rowOk x.attrs) from rfl)
  clear hb hat hv
  generalize rowOk x.attrs = okr at *
  by_cases h1 : x.name.length ≤ 24
  · obtain ⟨n1, l1⟩ := nameOk_le h1
    rw [n1, Bool.true_and] at HR
    by_cases h2 : x.typ.length ≤ 24
    · obtain ⟨n2, l2⟩ := nameOk_le h2
      rw [n2, Bool.true_and] at HR
      by_cases h3 : x.state.length ≤ 24
      · obtain ⟨n3, l3⟩ := nameOk_le h3
        rw [n3, Bool.true_and] at HR
        clear h1 h2 h3 n1 n2 n3
        go_enter Try.func28, Try.ntmps28
        go_wp2_with fail
        refine HK.out.mono ?_
        rintro e w1 ⟨rfl, b1⟩
        have HB2 := Lib.hid (HB.out.trans (b1.mono HB.out.size))
        clear b1
        go_wp2_with fail
        go_ret
        exact ⟨by rw [HR.out]; rfl, HB2.out⟩
      · obtain ⟨n3, l3⟩ := nameOk_gt h3
        rw [n3, Bool.false_and] at HR
        clear h1 h2 h3 n1 n2 n3
        go_enter Try.func28, Try.ntmps28
        go_wp2_with fail
        go_ret
        exact ⟨by rw [HR.out]; rfl, HB.out⟩
    · obtain ⟨n2, l2⟩ := nameOk_gt h2
      rw [n2] at HR
      clear h1 h2 n1 n2
      go_enter Try.func28, Try.ntmps28
      go_wp2_with fail
      go_ret
      exact ⟨by rw [HR.out]; rfl, HB.out⟩
  · obtain ⟨n1, l1⟩ := nameOk_gt h1
    rw [n1] at HR
    clear h1 n1
    go_enter Try.func28, Try.ntmps28
    go_wp2_with fail
    go_ret
    exact ⟨by rw [HR.out]; rfl, HB.out⟩

set_option maxRecDepth 100000 in
theorem rrightSub_any (x : SubP) (w : World) :
    Calls Try.prog 30 #[.agg #[.int .i64 x.id, .string (S x.role), .int .i64 x.past]] w fun e w' => e = .returned (.bool (subOk x)) ∧ Below w.heap.size w w' := by
  have HB := Lib.hid ((Below.refl w.heap.size w).alloc (Nat.le_refl _) (.cells #[.int .i64 x.id, .string (S x.role), .int .i64 x.past] 52))
  have HR := Lib.hid (show subOk x = nameOk x.role from rfl)
  by_cases h1 : x.role.length ≤ 24
  · obtain ⟨n1, l1⟩ := nameOk_le h1
    rw [n1] at HR
    clear h1 n1
    go_enter Try.func30, Try.ntmps30
    go_wp2_with fail
    go_ret
    exact ⟨by rw [HR.out]; rfl, HB.out⟩
  · obtain ⟨n1, l1⟩ := nameOk_gt h1
    rw [n1] at HR
    clear h1 n1
    go_enter Try.func30, Try.ntmps30
    go_wp2_with fail
    go_ret
    exact ⟨by rw [HR.out]; rfl, HB.out⟩

/-- Is what was put what the document puts? -/
theorem lawPut_any (x : List UInt8) (ok : Bool) (w : World) :
    Calls Try.prog 15 #[.string (S (if ok = true then x else [])), .int .i64 (if ok = true then 0 else 4), .string (S x), .bool ok] w fun e w' => e = .returned (.bool true) ∧ w = w' := by
  cases ok with
  | true =>
    simp only [if_true]
    have h1 : ((S x).toList == (S x).toList) = true := by simp
    go_enter Try.func15, Try.ntmps15
    go_wp2_with fail
    go_ret
    exact ⟨rfl, rfl⟩
  | false =>
    simp only [Bool.false_eq_true, if_false]
    have h1 : (S ([] : List UInt8)).toList.isEmpty = true := by rw [ByteArray.toList_eq, S_toList]; rfl
    go_enter Try.func15, Try.ntmps15
    go_wp2_with fail
    go_ret
    exact ⟨rfl, rfl⟩

/-- Are messages few, and short? -/
def fewB (l : List MailP) : Bool := l.all fun m => decide (l.length ≤ 200) && decide (m.key.length ≤ 40) && decide (m.fields.length ≤ 40)
theorem fewB_at {l : List MailP} (h : fewB l = true) {m : MailP} (hm : m ∈ l) : l.length ≤ 200 ∧ m.key.length ≤ 40 ∧ m.fields.length ≤ 40 := by
  unfold fewB at h
  rw [List.all_eq_true] at h
  have := h m hm
  simpa [and_assoc] using this
theorem fewB_no {l : List MailP} {m : MailP} (hm : m ∈ l) (h : ¬ (l.length ≤ 200 ∧ m.key.length ≤ 40 ∧ m.fields.length ≤ 40)) : fewB l = false := by
  cases e : fewB l with
  | false => rfl
  | true => exact absurd (fewB_at e hm) h
theorem fewB_all {l : List MailP} (h : ∀ m ∈ l, l.length ≤ 200 ∧ m.key.length ≤ 40 ∧ m.fields.length ≤ 40) : fewB l = true := by
  unfold fewB
  rw [List.all_eq_true]
  intro m hm
  obtain ⟨a, b, c⟩ := h m hm
  simp [a, b, c]

set_option maxRecDepth 100000 in
set_option maxHeartbeats 4000000 in
theorem few_any (xs : List MailP) (hlen : xs.length ≤ 281474976710656) (hkl : ∀ m ∈ xs, m.key.length ≤ 281474976710656 ∧ m.fields.length ≤ 281474976710656) (a : Option Addr) (cap : Nat) (w : World) (hx : MailsAt w a xs) :
    Calls Try.prog 11 #[.slice a xs.length cap] w fun e w' => e = .returned (.bool (fewB xs)) ∧ Below w.heap.size w w' := by
  have hlen2 : (xs.length : Int) ≤ 281474976710656 := by omega
  have HX := Lib.hid hx
  have HALL := Lib.hid (fun h => fewB_all (l := xs) h)
  have HNO := Lib.hid (fun (i : Nat) (hi : i < xs.length) h => fewB_no (l := xs) (List.getElem_mem hi) h)
  have HKL := Lib.hid (fun (i : Nat) (hi : i < xs.length) => hkl xs[i] (List.getElem_mem hi))
  clear hx hkl
  go_enter Try.func11, Try.ntmps11
  go_wp2_with fail
  go_loopw [7] (fun iv wr => ∃ k : Nat, k ≤ xs.length ∧ iv = .int .i64 k ∧ (∀ j (hj : j < xs.length), j < k → xs.length ≤ 200 ∧ xs[j].key.length ≤ 40 ∧ xs[j].fields.length ≤ 40) ∧ Below w.heap.size w wr) (fun iv _ => xs.length - (intOf iv).toNat)
  case atStart => exact ⟨0, Nat.zero_le _, rfl, fun j _ h => absurd h (Nat.not_lt_zero _), Below.refl _ _⟩
  case round =>
    obtain ⟨k, hk, rfl, hA, hb⟩ := hrel
    have HA := Lib.hid hA
    clear hA
    by_cases hlt : k < xs.length
    · have hki : (k : Int) < (xs.length : Int) := by omega
      obtain ⟨g, o, ka, kc, fa, fc, hae, hm0, hg0⟩ := HX.out k hlt
      obtain ⟨p0, p1, p2, p3, _, _⟩ := hm0.below hg0 hb
      subst hae
      have HBE := Lib.hid (hb.alloc hb.size (.cells #[.int .i64 xs[k].id, .string (S xs[k].chan), .slice ka xs[k].key.length kc, .slice fa xs[k].fields.length fc] 27))
      have HK := Lib.hid (HNO.out k hlt)
      have hkl := HKL.out k hlt
      have HS := Lib.hid (fun (h : xs.length ≤ 200 ∧ xs[k].key.length ≤ 40 ∧ xs[k].fields.length ≤ 40) => show ∀ j (hj : j < xs.length), j < k + 1 → xs.length ≤ 200 ∧ xs[j].key.length ≤ 40 ∧ xs[j].fields.length ≤ 40 from fun j hj hjk => by
        by_cases e : j = k
        · subst e; exact h
        · exact HA.out j hj (by omega))
      clear hb hm0 hg0
      generalize xs[k] = x at *
      by_cases hall : xs.length ≤ 200 ∧ x.key.length ≤ 40 ∧ x.fields.length ≤ 40
      · have c1 : ¬ (200 : Int) < (xs.length : Int) := by omega
        have c2 : ¬ (40 : Int) < (x.key.length : Int) := by omega
        have c3 : ¬ (40 : Int) < (x.fields.length : Int) := by omega
        have HS2 := Lib.hid (HS.out hall)
        clear hall
        go_wp2_with fail
        go_roundw
        case rel => exact ⟨k + 1, by omega, by go_num, HS2.out, HBE.out⟩
        case measure => simp [intOf]; omega
      · have HF := Lib.hid (HK.out hall)
        by_cases c1 : (200 : Int) < (xs.length : Int)
        · clear hall
          go_wp2_with fail
          go_ret
          exact ⟨by rw [HF.out]; rfl, HBE.out⟩
        · by_cases c2 : (40 : Int) < (x.key.length : Int)
          · clear hall
            go_wp2_with fail
            go_ret
            exact ⟨by rw [HF.out]; rfl, HBE.out⟩
          · have c3 : (40 : Int) < (x.fields.length : Int) := by omega
            clear hall
            go_wp2_with fail
            go_ret
            exact ⟨by rw [HF.out]; rfl, HBE.out⟩
    · have hki : ¬ (k : Int) < (xs.length : Int) := by omega
      have HBE := Lib.hid hb
      have HF := Lib.hid (HALL.out fun m hm => by
        obtain ⟨i, hi, rfl⟩ := List.getElem_of_mem hm
        exact HA.out i hi (by omega))
      clear hb
      go_wp2_with fail
      go_ret
      exact ⟨by rw [HF.out]; rfl, HBE.out⟩

end Go.Proofs.Ytgfgafpaokefhaa.Cd
