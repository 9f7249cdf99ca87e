/-
  Several texts in one: CdBackM, CdBackI, CdBackP.
-/
import Derived.Test.YtkdhchdhgmaolaaZTzA
import Derived.Test.YtkdhchdhgmaolaaZCdRdI
import Derived.Test.YtkdhchdhgmaolaaZCdRdK
import Derived.Test.YtkdhchdhgmaolaaZCdSeq
import Derived.Test.YtkdhchdhgmaolaaZCdRdO
import Derived.Test.YtkdhchdhgmaolaaZCdGetI
import Derived.Test.YtkdhchdhgmaolaaZCdGetD
import Derived.Test.YtkdhchdhgmaolaaZCdPut
namespace Go.Proofs.Ytkdhchdhgmaolaa.Cd
open Go.RowKit
open Pk Va

theorem pMail_put {m : MailP} (h : MIn m) (ok : mailOk m = true) (r : List UInt8) : pMail (mailB m ++ r) 0 = (m, r, 0) := by
  unfold mailOk nameOk at ok
  simp only [Bool.and_eq_true, decide_eq_true_eq] at ok
  unfold pMail mailB
  simp only [List.append_assoc]
  rw [pNum_put h.id]
  simp only
  rw [pText_put (by omega) (by omega)]
  simp only
  rw [pRow_put h.key ok.1.2]
  simp only
  rw [pRow_put h.fields ok.2]
theorem mailsB_flat : ∀ l : List MailP, mailsB l = l.flatMap mailB
  | [] => rfl
  | n :: l => by simp [mailsB, mailsB_flat l]
theorem cntsB_flat : ∀ l : List Int, cntsB l = l.flatMap cntI
  | [] => rfl
  | n :: l => by simp [cntsB, cntsB_flat l]
theorem pCnt_put {n : Int} (h : cntOk n = true) (r : List UInt8) : pCnt (cntI n ++ r) 0 = (n, r, 0) := by
  unfold cntOk at h
  have h2 : 0 ≤ n ∧ n ≤ 1000 := by simpa using h
  unfold pCnt cntI
  rw [show (n % 18446744073709551616).toNat = n.toNat by omega, pSmall_put (by omega) (by omega)]
  simp only
  rw [show ((n.toNat : Nat) : Int) = n by omega]
theorem pCnts_put {l : List Int} (hl : l.length ≤ 16) (h : l.all cntOk = true) (r : List UInt8) : pAll pCnt 16 (cntB l.length ++ (cntsB l ++ r)) 0 = (l, r, 0) := by
  rw [List.all_eq_true] at h
  rw [cntsB_flat]
  exact pAll_put pCnt cntI l 16 (by omega) (by omega) r (fun n hn r => pCnt_put (h n hn) r)
theorem pBox_put {l : List MailP} (hl : l.length ≤ 4096) (hin : ∀ m ∈ l, MIn m) (h : l.all mailOk = true) (r : List UInt8) : pAll pMail 4096 (cntB l.length ++ (mailsB l ++ r)) 0 = (l, r, 0) := by
  rw [List.all_eq_true] at h
  rw [mailsB_flat]
  exact pAll_put pMail mailB l 4096 (by omega) (by omega) r (fun m hm r => pMail_put (hin m hm) (h m hm) r)
end Go.Proofs.Ytkdhchdhgmaolaa.Cd

namespace Go.Proofs.Ytkdhchdhgmaolaa.Cd
open Go.RowKit
open Pk Va
set_option linter.unusedVariables false
set_option linter.unusedSimpArgs false

theorem nameOk_24 {t : List UInt8} (h : nameOk t = true) : t.length ≤ 24 := by unfold nameOk at h; simpa using h
theorem pItem_put {x : ItemP} (h : IIn x) (ok : itemOk x = true) (r : List UInt8) : pItem (itemB x ++ r) 0 = (x, r, 0) := by
  unfold itemOk at ok
  simp only [Bool.and_eq_true, decide_eq_true_eq] at ok
  obtain ⟨⟨⟨⟨o1, o2⟩, o3⟩, o4, o5⟩, o6, o7⟩ := ok
  have n1 := nameOk_24 o1
  have n2 := nameOk_24 o2
  unfold pItem itemB
  simp only [List.append_assoc]
  rw [pNum_put h.id]
  simp only
  rw [pNum_put h.since]
  simp only
  rw [pText_put (by omega) (by omega)]
  simp only
  rw [pText_put (by omega) (by omega)]
  simp only
  rw [pRow_put h.attrs o3]
  simp only
  rw [pCnts_put o4 o5]
  simp only
  rw [pBox_put o6 h.box o7]
theorem pDead_put {x : DeadP} (hn : Num64 x.n) (hm : MIn x.mail) (ok : deadOk x = true) (r : List UInt8) : pDead (deadB x ++ r) 0 = (x, r, 0) := by
  unfold deadOk at ok
  simp only [Bool.and_eq_true, decide_eq_true_eq] at ok
  obtain ⟨n, m, s⟩ := x
  obtain ⟨o1, o2, o3⟩ := ok
  simp only at o1 o2 o3 hn hm
  unfold pDead deadB
  simp only [List.append_assoc]
  rw [pNum_put hn]
  simp only
  rw [pMail_put hm o1]
  simp only
  unfold cntI
  rw [show (s % 18446744073709551616).toNat = s.toNat by omega, pSmall_put (by omega) (by omega)]
  simp only
  rw [show ((s.toNat : Nat) : Int) = s by omega]
end Go.Proofs.Ytkdhchdhgmaolaa.Cd

namespace Go.Proofs.Ytkdhchdhgmaolaa.Cd
open Go.RowKit
open Pk Va
set_option linter.unusedVariables false

theorem valB_short {v : V} (h : rightB v = true) : (valB v).length ≤ 180 := by
  obtain ⟨k, n, t, l⟩ := v
  have h3 := numB_len n
  have h4 := txtB_len t
  have h5 := numsB_len l
  have h6 := cntB_len l.length
  rcases right_parts h with ⟨rfl, _, _, _⟩ | ⟨rfl, _, _⟩ | ⟨rfl, _, _, _⟩ | ⟨rfl, h2, _⟩ | ⟨rfl, h2, _⟩ | ⟨rfl, h2⟩ <;>
    simp [valB, tailB] <;> omega
theorem valsB_short : ∀ (l : List V), (∀ v ∈ l, rightB v = true) → (valsB l).length ≤ 180 * l.length
  | [], _ => by simp [valsB]
  | v :: r, h => by
    have h1 := valB_short (h v (by simp))
    have h2 := valsB_short r (fun x hx => h x (by simp [hx]))
    unfold valsB
    rw [List.length_append, List.length_cons]
    omega
theorem rowB_short {l : List V} (h : rowOk l = true) : (rowB l).length ≤ 2900 := by
  unfold rowOk at h
  simp only [Bool.and_eq_true, decide_eq_true_eq, List.all_eq_true] at h
  have h1 := valsB_short l h.2
  have h2 := cntB_len l.length
  unfold rowB
  rw [List.length_append]
  omega
theorem mailB_short {m : MailP} (h : mailOk m = true) : (mailB m).length ≤ 5900 := by
  unfold mailOk at h
  simp only [Bool.and_eq_true] at h
  have h1 := rowB_short h.1.2
  have h2 := rowB_short h.2
  have h3 := numB_len m.id
  have h4 := txtB_len m.chan
  have h5 := nameOk_24 h.1.1
  unfold mailB
  simp only [List.length_append]
  omega
theorem mailsB_short : ∀ (l : List MailP), (∀ m ∈ l, mailOk m = true) → (mailsB l).length ≤ 5900 * l.length
  | [], _ => by simp [mailsB]
  | v :: r, h => by
    have h1 := mailB_short (h v (by simp))
    have h2 := mailsB_short r (fun x hx => h x (by simp [hx]))
    unfold mailsB
    rw [List.length_append, List.length_cons]
    omega
theorem cntsB_short : ∀ l : List Int, (cntsB l).length ≤ 10 * l.length
  | [] => by simp [cntsB]
  | n :: r => by
    have h1 := cntI_len n
    have h2 := cntsB_short r
    unfold cntsB
    rw [List.length_append, List.length_cons]; omega
theorem itemB_short {x : ItemP} (h : itemOk x = true) (hb : x.box.length ≤ 200) : (itemB x).length ≤ 2000000 := by
  unfold itemOk at h
  simp only [Bool.and_eq_true, decide_eq_true_eq, List.all_eq_true] at h
  obtain ⟨⟨⟨⟨o1, o2⟩, o3⟩, o4, o5⟩, o6, o7⟩ := h
  have h1 := rowB_short o3
  have h2 := mailsB_short x.box o7
  have h3 := numB_len x.id
  have h4 := numB_len x.since
  have h5 := txtB_len x.typ
  have h6 := txtB_len x.state
  have h7 := nameOk_24 o1
  have h8 := nameOk_24 o2
  have h9 := cntsB_short x.counts
  have h10 := cntB_len x.counts.length
  have h11 := cntB_len x.box.length
  unfold itemB
  simp only [List.length_append]
  omega
theorem deadB_short {x : DeadP} (h : deadOk x = true) : (deadB x).length ≤ 2000000 := by
  unfold deadOk at h
  simp only [Bool.and_eq_true] at h
  have h1 := mailB_short h.1
  have h2 := numB_len x.n
  have h3 := cntI_len x.reason
  unfold deadB
  simp only [List.length_append]
  omega
theorem getV_put {v : V} (h : VIn64 v) (ok : rightB v = true) : getV (valB v) = (v, 0) := by
  have := pVal_put h.num h.nums ok []
  rw [List.append_nil] at this
  unfold getV
  rw [this]
  rfl
theorem getI_put {x : ItemP} (h : IIn x) (ok : itemOk x = true) : getI (itemB x) = (x, 0) := by
  have := pItem_put h ok []
  rw [List.append_nil] at this
  unfold getI
  rw [this]
  rfl
theorem getD_put {x : DeadP} (hn : Num64 x.n) (hm : MIn x.mail) (ok : deadOk x = true) : getD (deadB x) = (x, 0) := by
  have := pDead_put hn hm ok []
  rw [List.append_nil] at this
  unfold getD
  rw [this]
  rfl
/-- What a Put of something answers, its Get behind it. -/
theorem put_get {α : Type} (get : List UInt8 → α × Nat) (x : α) (b : List UInt8) (ok : Bool) (hlen : ok = true → b.length ≤ 2000000) (h : ok = true → get b = (x, 0)) :
    ∃ (t : List UInt8) (e : Int) (y : α) (g : Nat), putR b ok = .tuple #[.string (S t), .int .i64 e] ∧ t.length ≤ 2000000 ∧ get t = (y, g) ∧ ((e = 0 ∧ y = x ∧ g = 0) ∨ e = 4) := by
  cases ok with
  | true => exact ⟨b, 0, x, 0, rfl, hlen rfl, h rfl, .inl ⟨rfl, rfl, rfl⟩⟩
  | false => exact ⟨[], 4, _, _, rfl, by simp, rfl, .inr rfl⟩
end Go.Proofs.Ytkdhchdhgmaolaa.Cd
