/-
  Several texts in one: CdBackM, CdGotM, CdBackI, CdGotI, CdAgainP.
-/
import Derived.Test.YtkdhchdhgmaolaaZTzA
import Derived.Test.YtkdhchdhgmaolaaZCdRdI
import Derived.Test.YtkdhchdhgmaolaaZCdRdK
import Derived.Test.YtkdhchdhgmaolaaZCdSeq
import Derived.Test.YtkdhchdhgmaolaaZCdRdH
import Derived.Test.YtkdhchdhgmaolaaZCdRdO
import Derived.Test.YtkdhchdhgmaolaaZCdGetI
import Derived.Test.YtkdhchdhgmaolaaZCdGetE
import Derived.Test.YtkdhchdhgmaolaaZCdGetMA
import Derived.Test.YtkdhchdhgmaolaaZCdGetSA
namespace Go.Proofs.Ytkdhchdhgmaolaa.Cd
open Go.RowKit
open Pk Va

theorem pMail_put {m : MailP} (h : MIn m) (ok : mailOk m = true) (r : List UInt8) : pMail (mailB m ++ r) 0 = (m, r, 0) := by
  unfold mailOk nameOk at ok
  simp only [Bool.and_eq_true, decide_eq_true_eq] at ok
  unfold pMail mailB
  simp only [List.append_assoc]
  rw [pNum_put h.id]
  simp only
  rw [pText_put (by omega) (by omega)]
  simp only
  rw [pRow_put h.key ok.1.2]
  simp only
  rw [pRow_put h.fields ok.2]
theorem mailsB_flat : ∀ l : List MailP, mailsB l = l.flatMap mailB
  | [] => rfl
  | n :: l => by simp [mailsB, mailsB_flat l]
theorem cntsB_flat : ∀ l : List Int, cntsB l = l.flatMap cntI
  | [] => rfl
  | n :: l => by simp [cntsB, cntsB_flat l]
theorem pCnt_put {n : Int} (h : cntOk n = true) (r : List UInt8) : pCnt (cntI n ++ r) 0 = (n, r, 0) := by
  unfold cntOk at h
  have h2 : 0 ≤ n ∧ n ≤ 1000 := by simpa using h
  unfold pCnt cntI
  rw [show (n % 18446744073709551616).toNat = n.toNat by omega, pSmall_put (by omega) (by omega)]
  simp only
  rw [show ((n.toNat : Nat) : Int) = n by omega]
theorem pCnts_put {l : List Int} (hl : l.length ≤ 16) (h : l.all cntOk = true) (r : List UInt8) : pAll pCnt 16 (cntB l.length ++ (cntsB l ++ r)) 0 = (l, r, 0) := by
  rw [List.all_eq_true] at h
  rw [cntsB_flat]
  exact pAll_put pCnt cntI l 16 (by omega) (by omega) r (fun n hn r => pCnt_put (h n hn) r)
theorem pBox_put {l : List MailP} (hl : l.length ≤ 4096) (hin : ∀ m ∈ l, MIn m) (h : l.all mailOk = true) (r : List UInt8) : pAll pMail 4096 (cntB l.length ++ (mailsB l ++ r)) 0 = (l, r, 0) := by
  rw [List.all_eq_true] at h
  rw [mailsB_flat]
  exact pAll_put pMail mailB l 4096 (by omega) (by omega) r (fun m hm r => pMail_put (hin m hm) (h m hm) r)
end Go.Proofs.Ytkdhchdhgmaolaa.Cd

namespace Go.Proofs.Ytkdhchdhgmaolaa.Cd
open Go.RowKit
open Pk Va

theorem pRow_got {xs : List V} {l r : List UInt8} {b : Nat} (h : pAll pVal 16 l b = (xs, r, 0)) : b = 0 ∧ (∀ v ∈ xs, VGood v) ∧ rowOk xs = true ∧ l = rowB xs ++ r := by
  obtain ⟨h0, h1, h2, h3⟩ := pAll_got (g := valB) (P := VGood) pVal_got h
  refine ⟨h0, h2, ?_, ?_⟩
  · unfold rowOk
    simp only [Bool.and_eq_true, decide_eq_true_eq, List.all_eq_true]
    exact ⟨by omega, fun v hv => (h2 v hv).2.2⟩
  · unfold rowB
    rw [h3, valsB_flat, List.append_assoc]
def MGood (m : MailP) : Prop := Num64 m.id ∧ (∀ v ∈ m.key, VGood v) ∧ (∀ v ∈ m.fields, VGood v) ∧ mailOk m = true
theorem pMail_got (m : MailP) (l : List UInt8) (b : Nat) (r : List UInt8) (h : pMail l b = (m, r, 0)) : b = 0 ∧ MGood m ∧ l = mailB m ++ r := by
  unfold pMail at h
  obtain ⟨⟨i, l1, b1⟩, hi⟩ : ∃ d, pNum l b = d := ⟨_, rfl⟩
  obtain ⟨⟨c, l2, b2⟩, hc⟩ : ∃ d, pText 24 l1 b1 = d := ⟨_, rfl⟩
  obtain ⟨⟨k, l3, b3⟩, hk⟩ : ∃ d, pAll pVal 16 l2 b2 = d := ⟨_, rfl⟩
  obtain ⟨⟨f, l4, b4⟩, hf⟩ : ∃ d, pAll pVal 16 l3 b3 = d := ⟨_, rfl⟩
  simp only [hi, hc, hk, hf, Prod.mk.injEq] at h
  obtain ⟨rfl, rfl, rfl⟩ := h
  obtain ⟨rfl, f1, f2, rfl⟩ := pRow_got hf
  obtain ⟨rfl, k1, k2, rfl⟩ := pRow_got hk
  obtain ⟨rfl, c1, rfl⟩ := pText_got hc
  obtain ⟨rfl, i1, rfl⟩ := pNum_got hi
  refine ⟨rfl, ⟨i1, k1, f1, ?_⟩, ?_⟩
  · unfold mailOk nameOk
    simp only [Bool.and_eq_true, decide_eq_true_eq]
    exact ⟨⟨by omega, k2⟩, f2⟩
  · unfold mailB
    simp only [List.append_assoc]
theorem pCnt_got (n : Int) (l : List UInt8) (b : Nat) (r : List UInt8) (h : pCnt l b = (n, r, 0)) : b = 0 ∧ cntOk n = true ∧ l = cntI n ++ r := by
  unfold pCnt at h
  obtain ⟨⟨x, l1, b1⟩, hx⟩ : ∃ d, pSmall 1000 l b = d := ⟨_, rfl⟩
  rw [hx] at h
  simp only [Prod.mk.injEq] at h
  obtain ⟨rfl, rfl, rfl⟩ := h
  obtain ⟨h0, h1, h2⟩ := pSmall_got hx
  refine ⟨h0, by unfold cntOk; simp; omega, ?_⟩
  rw [h2]
  unfold cntI
  rw [show (((x : Nat) : Int) % 18446744073709551616).toNat = x by omega]
theorem pCnts_got {xs : List Int} {l r : List UInt8} {b : Nat} (h : pAll pCnt 16 l b = (xs, r, 0)) : b = 0 ∧ xs.length ≤ 16 ∧ xs.all cntOk = true ∧ l = cntB xs.length ++ (cntsB xs ++ r) := by
  obtain ⟨h0, h1, h2, h3⟩ := pAll_got (g := cntI) (P := fun n => cntOk n = true) pCnt_got h
  exact ⟨h0, by omega, List.all_eq_true.2 h2, by rw [h3, cntsB_flat]⟩
theorem pBox_got {xs : List MailP} {l r : List UInt8} {b : Nat} (h : pAll pMail 4096 l b = (xs, r, 0)) : b = 0 ∧ xs.length ≤ 4096 ∧ (∀ m ∈ xs, MGood m) ∧ l = cntB xs.length ++ (mailsB xs ++ r) := by
  obtain ⟨h0, h1, h2, h3⟩ := pAll_got (g := mailB) (P := MGood) pMail_got h
  exact ⟨h0, by omega, h2, by rw [h3, mailsB_flat]⟩
theorem pSub_got (x : SubP) (l : List UInt8) (b : Nat) (r : List UInt8) (h : pSub l b = (x, r, 0)) : b = 0 ∧ (Num64 x.id ∧ Num64 x.past) ∧ subOk x = true ∧ l = subB x ++ r := by
  unfold pSub at h
  obtain ⟨⟨i, l1, b1⟩, hi⟩ : ∃ d, pNum l b = d := ⟨_, rfl⟩
  obtain ⟨⟨p, l2, b2⟩, hp⟩ : ∃ d, pNum l1 b1 = d := ⟨_, rfl⟩
  obtain ⟨⟨c, l3, b3⟩, hc⟩ : ∃ d, pText 24 l2 b2 = d := ⟨_, rfl⟩
  simp only [hi, hp, hc, Prod.mk.injEq] at h
  obtain ⟨rfl, rfl, rfl⟩ := h
  obtain ⟨rfl, c1, rfl⟩ := pText_got hc
  obtain ⟨rfl, p1, rfl⟩ := pNum_got hp
  obtain ⟨rfl, i1, rfl⟩ := pNum_got hi
  refine ⟨rfl, ⟨i1, p1⟩, by unfold subOk nameOk; simp; omega, ?_⟩
  unfold subB
  simp only [List.append_assoc]
end Go.Proofs.Ytkdhchdhgmaolaa.Cd

namespace Go.Proofs.Ytkdhchdhgmaolaa.Cd
open Go.RowKit
open Pk Va
set_option linter.unusedVariables false
set_option linter.unusedSimpArgs false

theorem nameOk_24 {t : List UInt8} (h : nameOk t = true) : t.length ≤ 24 := by unfold nameOk at h; simpa using h
theorem pItem_put {x : ItemP} (h : IIn x) (ok : itemOk x = true) (r : List UInt8) : pItem (itemB x ++ r) 0 = (x, r, 0) := by
  unfold itemOk at ok
  simp only [Bool.and_eq_true, decide_eq_true_eq] at ok
  obtain ⟨⟨⟨⟨o1, o2⟩, o3⟩, o4, o5⟩, o6, o7⟩ := ok
  have n1 := nameOk_24 o1
  have n2 := nameOk_24 o2
  unfold pItem itemB
  simp only [List.append_assoc]
  rw [pNum_put h.id]
  simp only
  rw [pNum_put h.since]
  simp only
  rw [pText_put (by omega) (by omega)]
  simp only
  rw [pText_put (by omega) (by omega)]
  simp only
  rw [pRow_put h.attrs o3]
  simp only
  rw [pCnts_put o4 o5]
  simp only
  rw [pBox_put o6 h.box o7]
theorem pDead_put {x : DeadP} (hn : Num64 x.n) (hm : MIn x.mail) (ok : deadOk x = true) (r : List UInt8) : pDead (deadB x ++ r) 0 = (x, r, 0) := by
  unfold deadOk at ok
  simp only [Bool.and_eq_true, decide_eq_true_eq] at ok
  obtain ⟨n, m, s⟩ := x
  obtain ⟨o1, o2, o3⟩ := ok
  simp only at o1 o2 o3 hn hm
  unfold pDead deadB
  simp only [List.append_assoc]
  rw [pNum_put hn]
  simp only
  rw [pMail_put hm o1]
  simp only
  unfold cntI
  rw [show (s % 18446744073709551616).toNat = s.toNat by omega, pSmall_put (by omega) (by omega)]
  simp only
  rw [show ((s.toNat : Nat) : Int) = s by omega]
end Go.Proofs.Ytkdhchdhgmaolaa.Cd

namespace Go.Proofs.Ytkdhchdhgmaolaa.Cd
open Go.RowKit
open Pk Va
set_option linter.unusedVariables false
set_option linter.unusedSimpArgs false

structure IGood (x : ItemP) : Prop where
  id : Num64 x.id
  since : Num64 x.since
  attrs : ∀ v ∈ x.attrs, VGood v
  box : ∀ m ∈ x.box, MGood m
  ok : itemOk x = true
theorem pItem_got (x : ItemP) (l : List UInt8) (b : Nat) (r : List UInt8) (h : pItem l b = (x, r, 0)) : b = 0 ∧ IGood x ∧ l = itemB x ++ r := by
  unfold pItem at h
  obtain ⟨⟨i, l1, b1⟩, h1⟩ : ∃ d, pNum l b = d := ⟨_, rfl⟩
  obtain ⟨⟨s, l2, b2⟩, h2⟩ : ∃ d, pNum l1 b1 = d := ⟨_, rfl⟩
  obtain ⟨⟨t, l3, b3⟩, h3⟩ : ∃ d, pText 24 l2 b2 = d := ⟨_, rfl⟩
  obtain ⟨⟨z, l4, b4⟩, h4⟩ : ∃ d, pText 24 l3 b3 = d := ⟨_, rfl⟩
  obtain ⟨⟨a, l5, b5⟩, h5⟩ : ∃ d, pAll pVal 16 l4 b4 = d := ⟨_, rfl⟩
  obtain ⟨⟨c, l6, b6⟩, h6⟩ : ∃ d, pAll pCnt 16 l5 b5 = d := ⟨_, rfl⟩
  obtain ⟨⟨y, l7, b7⟩, h7⟩ : ∃ d, pAll pMail 4096 l6 b6 = d := ⟨_, rfl⟩
  simp only [h1, h2, h3, h4, h5, h6, h7, Prod.mk.injEq] at h
  obtain ⟨rfl, rfl, rfl⟩ := h
  obtain ⟨rfl, y1, y2, rfl⟩ := pBox_got h7
  obtain ⟨rfl, c1, c2, rfl⟩ := pCnts_got h6
  obtain ⟨rfl, a1, a2, rfl⟩ := pRow_got h5
  obtain ⟨rfl, z1, rfl⟩ := pText_got h4
  obtain ⟨rfl, t1, rfl⟩ := pText_got h3
  obtain ⟨rfl, s1, rfl⟩ := pNum_got h2
  obtain ⟨rfl, i1, rfl⟩ := pNum_got h1
  refine ⟨rfl, ⟨i1, s1, a1, y2, ?_⟩, ?_⟩
  · unfold itemOk nameOk
    simp only [Bool.and_eq_true, decide_eq_true_eq]
    exact ⟨⟨⟨⟨by omega, by omega⟩, a2⟩, c1, c2⟩, y1, List.all_eq_true.2 fun m hm => (y2 m hm).2.2.2⟩
  · unfold itemB
    simp only [List.append_assoc]
structure EGood (x : EventP) : Prop where
  n : Num64 x.n
  tick : Num64 x.tick
  item : Num64 x.item
  attrs : ∀ v ∈ x.attrs, VGood v
  ok : eventOk x = true
theorem pEvent_got (x : EventP) (l : List UInt8) (b : Nat) (r : List UInt8) (h : pEvent l b = (x, r, 0)) : b = 0 ∧ EGood x ∧ l = eventB x ++ r := by
  unfold pEvent at h
  obtain ⟨⟨n, l1, b1⟩, h1⟩ : ∃ d, pNum l b = d := ⟨_, rfl⟩
  obtain ⟨⟨t, l2, b2⟩, h2⟩ : ∃ d, pNum l1 b1 = d := ⟨_, rfl⟩
  obtain ⟨⟨i, l3, b3⟩, h3⟩ : ∃ d, pNum l2 b2 = d := ⟨_, rfl⟩
  obtain ⟨⟨a, l4, b4⟩, h4⟩ : ∃ d, pText 24 l3 b3 = d := ⟨_, rfl⟩
  obtain ⟨⟨y, l5, b5⟩, h5⟩ : ∃ d, pText 24 l4 b4 = d := ⟨_, rfl⟩
  obtain ⟨⟨z, l6, b6⟩, h6⟩ : ∃ d, pText 24 l5 b5 = d := ⟨_, rfl⟩
  obtain ⟨⟨v, l7, b7⟩, h7⟩ : ∃ d, pAll pVal 16 l6 b6 = d := ⟨_, rfl⟩
  simp only [h1, h2, h3, h4, h5, h6, h7, Prod.mk.injEq] at h
  obtain ⟨rfl, rfl, rfl⟩ := h
  obtain ⟨rfl, v1, v2, rfl⟩ := pRow_got h7
  obtain ⟨rfl, z1, rfl⟩ := pText_got h6
  obtain ⟨rfl, y1, rfl⟩ := pText_got h5
  obtain ⟨rfl, a1, rfl⟩ := pText_got h4
  obtain ⟨rfl, i1, rfl⟩ := pNum_got h3
  obtain ⟨rfl, t1, rfl⟩ := pNum_got h2
  obtain ⟨rfl, n1, rfl⟩ := pNum_got h1
  refine ⟨rfl, ⟨n1, t1, i1, v1, ?_⟩, ?_⟩
  · unfold eventOk nameOk
    simp only [Bool.and_eq_true, decide_eq_true_eq]
    exact ⟨⟨⟨by omega, by omega⟩, by omega⟩, v2⟩
  · unfold eventB
    simp only [List.append_assoc]
end Go.Proofs.Ytkdhchdhgmaolaa.Cd

namespace Go.Proofs.Ytkdhchdhgmaolaa.Cd
open Go.RowKit
open Pk Va
set_option linter.unusedVariables false

theorem vgood_in {v : V} (h : VGood v) : VIn64 v := by
  obtain ⟨h1, h2, h3⟩ := h
  refine ⟨?_, h1, h2⟩
  obtain ⟨k, n, t, l⟩ := v
  rcases right_parts h3 with ⟨_, _, rfl, rfl⟩ | ⟨_, rfl, rfl⟩ | ⟨_, _, rfl, rfl⟩ | ⟨_, h4, rfl⟩ | ⟨_, h4, rfl⟩ | ⟨_, h4⟩
  · exact ⟨by simp, by simp⟩
  · exact ⟨by simp, by simp⟩
  · exact ⟨by simp, by simp⟩
  · exact ⟨by show t.length ≤ _; omega, by simp⟩
  · exact ⟨by show t.length ≤ _; omega, by simp⟩
  · have ht : t = [] := by
      rename_i hk
      subst hk
      simp [rightB] at h3
      exact h3.1.2
    subst ht
    exact ⟨by simp, by show l.length ≤ _; omega⟩
theorem rowOk_len {l : List V} (h : rowOk l = true) : l.length ≤ 16 := by
  unfold rowOk at h
  simp only [Bool.and_eq_true, decide_eq_true_eq] at h
  exact h.1
theorem mgood_in {m : MailP} (h : MGood m) : MIn m := by
  obtain ⟨h1, h2, h3, h4⟩ := h
  unfold mailOk at h4
  simp only [Bool.and_eq_true] at h4
  have := rowOk_len h4.1.2
  have := rowOk_len h4.2
  exact ⟨h1, fun v hv => vgood_in (h2 v hv), fun v hv => vgood_in (h3 v hv), by omega, by omega⟩
theorem cntOk_num {n : Int} (h : cntOk n = true) : Num64 n := by
  unfold cntOk at h
  simp only [decide_eq_true_eq] at h
  exact ⟨by omega, by omega⟩
theorem igood_in {x : ItemP} (h : IGood x) : IIn x := by
  have ok := h.ok
  unfold itemOk at ok
  simp only [Bool.and_eq_true, decide_eq_true_eq, List.all_eq_true] at ok
  obtain ⟨⟨⟨⟨o1, o2⟩, o3⟩, o4, o5⟩, o6, o7⟩ := ok
  have := rowOk_len o3
  exact ⟨h.id, h.since, fun v hv => vgood_in (h.attrs v hv), fun n hn => cntOk_num (o5 n hn), fun m hm => mgood_in (h.box m hm), by omega, by omega, by omega⟩
theorem endV_nil {l : List UInt8} {b : Nat} (h : endV l b = 0) : l = [] ∧ b = 0 := by
  unfold endV at h
  split at h
  · rename_i h1; exact absurd h h1
  · split at h
    · rename_i h1 h2; exact ⟨List.length_eq_zero_iff.1 h2, by omega⟩
    · omega
theorem getI_ok {s : List UInt8} {x : ItemP} (h : getI s = (x, 0)) : IGood x ∧ itemB x = s ∧ (getI (s ++ [0])).2 = 4 := by
  unfold getI at h
  obtain ⟨⟨y, l, b⟩, hd⟩ : ∃ d, pItem s 0 = d := ⟨_, rfl⟩
  rw [hd] at h
  simp only at h
  split at h
  · rename_i he
    obtain ⟨rfl, rfl⟩ := endV_nil he
    obtain rfl : y = x := (Prod.mk.inj h).1
    obtain ⟨_, hg, hs⟩ := pItem_got _ _ _ _ hd
    rw [List.append_nil] at hs
    subst hs
    refine ⟨hg, rfl, ?_⟩
    unfold getI
    rw [pItem_put (igood_in hg) hg.ok]
    rfl
  · rename_i he
    exact absurd (Prod.mk.inj h).2 he
theorem getM_ok {s : List UInt8} {x : MailP} (h : getM s = (x, 0)) : MGood x ∧ mailB x = s := by
  unfold getM at h
  obtain ⟨⟨y, l, b⟩, hd⟩ : ∃ d, pMail s 0 = d := ⟨_, rfl⟩
  rw [hd] at h
  simp only at h
  split at h
  · rename_i he
    obtain ⟨rfl, rfl⟩ := endV_nil he
    obtain rfl : y = x := (Prod.mk.inj h).1
    obtain ⟨_, hg, hs⟩ := pMail_got _ _ _ _ hd
    rw [List.append_nil] at hs
    exact ⟨hg, hs.symm⟩
  · rename_i he
    exact absurd (Prod.mk.inj h).2 he
theorem getE_ok {s : List UInt8} {x : EventP} (h : getE s = (x, 0)) : EGood x ∧ eventB x = s := by
  unfold getE at h
  obtain ⟨⟨y, l, b⟩, hd⟩ : ∃ d, pEvent s 0 = d := ⟨_, rfl⟩
  rw [hd] at h
  simp only at h
  split at h
  · rename_i he
    obtain ⟨rfl, rfl⟩ := endV_nil he
    obtain rfl : y = x := (Prod.mk.inj h).1
    obtain ⟨_, hg, hs⟩ := pEvent_got _ _ _ _ hd
    rw [List.append_nil] at hs
    exact ⟨hg, hs.symm⟩
  · rename_i he
    exact absurd (Prod.mk.inj h).2 he
theorem getS_ok {s : List UInt8} {x : SubP} (h : getS s = (x, 0)) : (Num64 x.id ∧ Num64 x.past) ∧ subOk x = true ∧ subB x = s := by
  unfold getS at h
  obtain ⟨⟨y, l, b⟩, hd⟩ : ∃ d, pSub s 0 = d := ⟨_, rfl⟩
  rw [hd] at h
  simp only at h
  split at h
  · rename_i he
    obtain ⟨rfl, rfl⟩ := endV_nil he
    obtain rfl : y = x := (Prod.mk.inj h).1
    obtain ⟨_, h1, h2, hs⟩ := pSub_got _ _ _ _ hd
    rw [List.append_nil] at hs
    exact ⟨h1, h2, hs.symm⟩
  · rename_i he
    exact absurd (Prod.mk.inj h).2 he
end Go.Proofs.Ytkdhchdhgmaolaa.Cd
