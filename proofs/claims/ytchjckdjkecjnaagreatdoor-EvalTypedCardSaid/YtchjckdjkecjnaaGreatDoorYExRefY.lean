/- ZExRefY -/
import Derived.Test.YtchjckdjkecjnaaGreatDoorYExRefT
namespace Go.Proofs.YtchjckdjkecjnaaGreatDoor.Ex
open Go.RowKit
open Lx
theorem rcall_any (b g cap : Nat) (ts : List TA) (s : St) (w : World) (h : Rdg w b g cap ts.length s.at_ s.n s.open_ 0 0) (ht : TsAt w g ts) (hg : g ≠ b) (hs : StOk ts s) (hn : ts.length ≤ 8001) (he : Ends ts) (rec : St → R) (hrk : RecOk ts rec) (op : Int) (n : Nat) (hn1 : 1 ≤ n) (hn2 : n ≤ 2) (hs1 : s.at_ + 1 < ts.length)
    (HR : ∀ s1 : St, StOk ts s1 → s1.open_ = s.open_ + 1 → ∀ w1, Rdg w1 b g cap ts.length s1.at_ s1.n s1.open_ 0 0 → TsAt w1 g ts → Calls Tryz.prog 58 #[.pointer (some ⟨b, 0, none⟩), .int .i64 0] w1 fun e w' => ResA b g cap ts w1 (rec s1) e w') :
    Calls Tryz.prog 141 #[.pointer (some ⟨b, 0, none⟩), .int .i64 op, .int .i64 n] w fun e w' => ResA b g cap ts w (callR rec ts op n s) e w' := by
  cases hu : isS ts (s.at_ + 1) [40] with
  | true => exact rcall_yes b g cap ts he rec hrk op n hn1 hn2 s w h ht hg hs hs1 hn hu HR
  | false =>
    unfold callR
    rw [if_neg (by rw [hu]; decide)]
    exact rcall_no b g cap ts op n s w h ht hg hs1 hn hu
theorem rprim_any (b g cap : Nat) (ts : List TA) (s : St) (w : World) (h : Rdg w b g cap ts.length s.at_ s.n s.open_ 0 0) (ht : TsAt w g ts) (hg : g ≠ b) (hs : StOk ts s) (hn : ts.length ≤ 8001) (he : Ends ts) (rec : St → R) (hrk : RecOk ts rec)
    (HR : ∀ s1 : St, StOk ts s1 → s1.open_ = s.open_ + 1 → ∀ w1, Rdg w1 b g cap ts.length s1.at_ s1.n s1.open_ 0 0 → TsAt w1 g ts → Calls Tryz.prog 58 #[.pointer (some ⟨b, 0, none⟩), .int .i64 0] w1 fun e w' => ResA b g cap ts w1 (rec s1) e w') :
    Calls Tryz.prog 118 #[.pointer (some ⟨b, 0, none⟩)] w fun e w' => ResA b g cap ts w (primR rec ts s) e w' := by
  unfold primR
  by_cases h1 : (tk ts s.at_).kind = 1
  · rw [if_pos h1]
    have hnx := he.next hs.at_ (by rw [h1]; decide)
    unfold wordR
    by_cases n1 : (tk ts s.at_).text = wLen
    · rw [if_pos n1]
      exact rprim_call b g cap ts s w h ht hg hs hn _ 12 1 h1 (.inl ⟨n1, rfl, rfl⟩) (fun w1 k1 k2 => rcall_any b g cap ts s w1 k1 k2 hg hs hn he rec hrk 12 1 (by decide) (by decide) hnx HR)
    rw [if_neg n1]
    by_cases n2 : (tk ts s.at_).text = wAt
    · rw [if_pos n2]
      exact rprim_call b g cap ts s w h ht hg hs hn _ 25 2 h1 (.inr (.inl ⟨n2, rfl, rfl⟩)) (fun w1 k1 k2 => rcall_any b g cap ts s w1 k1 k2 hg hs hn he rec hrk 25 2 (by decide) (by decide) hnx HR)
    rw [if_neg n2]
    by_cases n3 : (tk ts s.at_).text = wPush
    · rw [if_pos n3]
      exact rprim_call b g cap ts s w h ht hg hs hn _ 26 2 h1 (.inr (.inr ⟨n3, rfl, rfl⟩)) (fun w1 k1 k2 => rcall_any b g cap ts s w1 k1 k2 hg hs hn he rec hrk 26 2 (by decide) (by decide) hnx HR)
    rw [if_neg n3]
    by_cases n4 : (tk ts s.at_).text = wMsg
    · rw [if_pos n4]
      exact rprim_field b g cap ts s w h ht hg hs hn he h1 n4
    rw [if_neg n4]
    by_cases n5 : (tk ts s.at_).text = wTrue
    · rw [if_pos n5]
      exact rprim_leaf b g cap ts s w h ht hg hs hn 3 1 [] (.inr (.inr (.inr (.inl ⟨h1, n5, rfl, rfl, rfl⟩))))
    rw [if_neg n5]
    by_cases n6 : (tk ts s.at_).text = wFalse
    · rw [if_pos n6]
      exact rprim_leaf b g cap ts s w h ht hg hs hn 3 0 [] (.inr (.inr (.inr (.inr (.inl ⟨h1, n6, rfl, rfl, rfl⟩)))))
    rw [if_neg n6]
    exact rprim_leaf b g cap ts s w h ht hg hs hn 6 0 _ (.inr (.inr (.inr (.inr (.inr ⟨h1, ⟨n1, n2, n3, n4, n5, n6⟩, rfl, rfl, rfl⟩)))))
  rw [if_neg h1]
  by_cases h2 : (tk ts s.at_).kind = 2
  · rw [if_pos h2]
    exact rprim_leaf b g cap ts s w h ht hg hs hn 1 _ [] (.inl ⟨h2, rfl, rfl, rfl⟩)
  rw [if_neg h2]
  by_cases h3 : (tk ts s.at_).kind = 3
  · rw [if_pos h3]
    exact rprim_leaf b g cap ts s w h ht hg hs hn 2 0 _ (.inr (.inl ⟨h3, rfl, rfl, rfl⟩))
  rw [if_neg h3]
  by_cases h4 : (tk ts s.at_).kind = 4
  · rw [if_pos h4]
    exact rprim_leaf b g cap ts s w h ht hg hs hn 4 0 _ (.inr (.inr (.inl ⟨h4, rfl, rfl, rfl⟩)))
  rw [if_neg h4]
  cases h5 : isS ts s.at_ [40] with
  | true =>
    rw [if_pos rfl]
    exact rprim_group b g cap ts s w h ht hg hs hn he rec hrk h5 HR
  | false =>
    rw [if_neg (by decide)]
    cases h6 : isS ts s.at_ [91] with
    | true =>
      rw [if_pos rfl]
      exact rprim_list b g cap ts s w h ht hg hs hn he rec hrk h6 HR
    | false =>
      rw [if_neg (by decide)]
      exact rprim_none b g cap ts s w h ht hg hs hn (by omega) h5 h6
theorem rlevel_all (b g cap : Nat) (ts : List TA) (he : Ends ts) (hg : g ≠ b) (hn : ts.length ≤ 8001) : ∀ f : Nat,
    (∀ s : St, StOk ts s → need 5 s < f → ∀ w, Rdg w b g cap ts.length s.at_ s.n s.open_ 0 0 → TsAt w g ts → Calls Tryz.prog 97 #[.pointer (some ⟨b, 0, none⟩)] w fun e w' => ResA b g cap ts w (lv ts f 5 s) e w') ∧
    (∀ n : Nat, n ≤ 5 → ∀ s : St, StOk ts s → need n s < f → ∀ w, Rdg w b g cap ts.length s.at_ s.n s.open_ 0 0 → TsAt w g ts → Calls Tryz.prog 58 #[.pointer (some ⟨b, 0, none⟩), .int .i64 n] w fun e w' => ResA b g cap ts w (lv ts f n s) e w')
  | 0 => ⟨fun s _ h => absurd h (by omega), fun n _ s _ h => absurd h (by omega)⟩
  | f + 1 => by
    obtain ⟨IU, IL⟩ := rlevel_all b g cap ts he hg hn f
    have hU : ∀ s : St, StOk ts s → need 5 s < f + 1 → ∀ w, Rdg w b g cap ts.length s.at_ s.n s.open_ 0 0 → TsAt w g ts → Calls Tryz.prog 97 #[.pointer (some ⟨b, 0, none⟩)] w fun e w' => ResA b g cap ts w (lv ts (f + 1) 5 s) e w' := by
      intro s hs hnd w h ht
      unfold need at hnd
      refine runary_any b g cap ts he f s w h ht hg hs hn (fun w1 k1 k2 => rprim_any b g cap ts s w1 k1 k2 hg hs hn he (lv ts f 0) (lv_st he f 0) ?_) ?_
      · intro s1 hs1 ho w2 k3 k4
        refine IL 0 (by omega) s1 hs1 ?_ w2 k3 k4
        have := hs1.op
        unfold need
        omega
      · intro s1 hs1 ho w1 k1 k2
        refine IU s1 hs1 ?_ w1 k1 k2
        have := hs1.op
        unfold need
        omega
    refine ⟨hU, fun n hn5 s hs hnd w h ht => ?_⟩
    by_cases h5 : n = 5
    · subst h5
      exact rlevel_5 b g cap ts _ s w h ht (fun w1 k1 k2 => hU s hs hnd w1 k1 k2)
    · have hL := rlevel_lo b g cap ts he (lv ts f (n + 1)) (lv_st he f (n + 1)) n (by omega) s w h ht hg hs hn (fun s1 hs1 ho w1 k1 k2 => by
        have e : ((n : Int) + 1) = ((n + 1 : Nat) : Int) := by omega
        rw [e]
        refine IL (n + 1) (by omega) s1 hs1 ?_ w1 k1 k2
        unfold need at hnd ⊢
        rw [ho]
        omega)
      have e2 : lv ts (f + 1) n s = (lv ts f (n + 1) s).then fun x s1 => loopR (lv ts f (n + 1)) ts n 201 x s1 := by
        rw [lv, if_neg h5]
      rw [e2]
      exact hL
end Go.Proofs.YtchjckdjkecjnaaGreatDoor.Ex
