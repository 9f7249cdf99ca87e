/-
  append onto a row of bytes of the call's own, whose head may be frozen: a byte, a string.
-/
import Derived.Test.YtkdhchdhgmaolaaShelf
import Derived.Test.YtkdhchdhgmaolaaZTzD
namespace Go.Proofs.Ytkdhchdhgmaolaa.Va
open Go.RowKit

theorem wpList_app {P : Program} {ops : Array Oper} {rest : List Oper} {o : Oper} {a : Act} {w : World} {Q : Exit → Act → World → Prop} (hgd : o.guard = none) (s x : Operand) (t u : TypeId)
    (ho : o.op = .call { callee := .builtin .append, args := #[s, x], argTypes := #[t, u] }) {v vx : Value} (hs : a.eval s = v) (hx : a.eval x = vx) (v' : Value) (w' : World)
    (hr : (Builtin.append_ #[t, u] o.type #[v, vx]).run P w = .ok v' w') (h : wpList P ops Q rest (a.put o.dst v') w') : wpList P ops Q (o :: rest) a w := by
  refine wpList_plain hgd fun K hK => ?_
  unfold Oper.wp execOp
  simp only [ho, resolve, invoke, builtin, Sem.run_bind, Sem.run_pure, Result.andThen_ok, List.map_toArray, List.map_cons, List.map_nil, hs, hx, hr]
  exact hK _ _ h

/-- What append does to the row of a builder, and where the row lies then. -/
def Grew (H n : Nat) (v : Value) (xs : List Value) (w : World) (v' : Value) (w' : World) : Prop :=
  w'.ownsRowF H 5 1 v' n xs ∧ w.grownBy w' v.ownBlock ∧ (v'.ownBlock = v.ownBlock ∨ ∃ g, v'.ownBlock = some g ∧ w.heap.size ≤ g)
theorem app_byte (H : Nat) (v : Value) (n : Nat) (xs : List Value) (w : World) (hown : w.ownsRowF H 5 1 v n xs) (ad : Addr) (c : Int) (hc : w.cell? ad = some (.int .u8 c)) (hsp : ad.add 0 = ad) (h63 : n + 1 ≤ 140737488355328) (hH : H ≤ w.heap.size) :
    ∃ v' w', (Builtin.append_ #[148, 148] 148 #[v, .slice (some ad) 1 1]).run Try.prog w = .ok v' w' ∧ Grew H (n + 1) v (xs ++ [.int .u8 c]) w v' w' := by
  obtain ⟨i0, hi, hz0, hz1, hz2⟩ := info_parts info8
  have hnews : ∀ j u, [Value.int .u8 c][j]? = some u → w.cell? (ad.add j) = some u := fun j u hj => by
    match j, hj with
    | 0, hj => simp at hj; subst hj; rw [hsp]; exact hc
  have h1 : ∀ u ∈ [Value.int .u8 c], u.oneCell' = true := fun u hu => by simp at hu; subst hu; rfl
  have hm : n + 1 ≤ maxLen := by unfold maxLen; omega
  obtain ⟨v', w', hr, h2, h3, _⟩ := run_append_ownF (P := Try.prog) w H 148 148 5 i0 (.int .u8 0) 1 1 Try.underlying148 hi hz0 hz1 hz2 rfl (by decide) v n xs hown ad 1 1 [.int .u8 c] rfl hnews h1 hm (by omega) hH
  refine ⟨v', w', hr, h2, h3, ?_⟩
  rcases hown.2 with ⟨rfl, rfl⟩ | ⟨g, cap, cur, fz, rfl, _, hg, hfz, hnc, _, hcs, _⟩
  · obtain ⟨v2, w2, hr2, h22, _, _⟩ := run_append_own (P := Try.prog) w w.heap.size 148 148 5 i0 (.int .u8 0) 1 1 Try.underlying148 hi hz0 hz1 hz2 rfl (by decide) (.slice none 0 0) 0 xs ⟨hown.1, .inl ⟨rfl, rfl⟩⟩ ad 1 1 [.int .u8 c] rfl hnews h1 hm (by omega) (Nat.le_refl _)
    rw [hr] at hr2
    obtain ⟨rfl, rfl⟩ : v' = v2 ∧ w' = w2 := by injection hr2 with e1 e2; exact ⟨e1, e2⟩
    rcases h22.2 with ⟨_, h0⟩ | ⟨g, cap, cur, rfl, hb, _⟩
    · omega
    · exact .inr ⟨g, rfl, hb⟩
  · by_cases hroom : n + 1 ≤ cap
    · have hr2 := run_append_roomF (P := Try.prog) w 148 148 5 i0 Try.underlying148 hi g n cap cur fz hg (by rw [hz1]; exact hfz) ad 1 1 [.int .u8 c] (by rw [hz1]; rfl) hnews h1 hroom (by rw [hcs, hz1]; simp; omega)
      rw [hr] at hr2
      injection hr2 with e1 _
      subst e1
      exact .inl rfl
    · have hr2 := run_append_grow (P := Try.prog) w 148 148 5 i0 (.int .u8 0) Try.underlying148 hi hz0 ⟨g, 0, none⟩ n cap xs (by rw [hz1]; exact hown.1) (hown.cells (g := g) rfl) ad 1 1 [.int .u8 c] (by rw [hz1]; rfl) hnews (by omega) (by omega) (by rw [hz2]; exact growslice_fits (by omega) (by omega))
      rw [hr] at hr2
      injection hr2 with e1 _
      subst e1
      exact .inr ⟨_, rfl, Nat.le_refl _⟩
theorem app_string (H : Nat) (v : Value) (n : Nat) (xs : List Value) (w : World) (hown : w.ownsRowF H 5 1 v n xs) (s : ByteArray) (hs1 : 0 < s.size) (h63 : n + s.size ≤ 140737488355328) (hH : H ≤ w.heap.size) :
    ∃ v' w', (Builtin.append_ #[148, 9] 148 #[v, .string s]).run Try.prog w = .ok v' w' ∧ Grew H (n + s.size) v (xs ++ Lib.strCells s) w v' w' := by
  obtain ⟨i0, hi, hz0, hz1, hz2⟩ := info_parts info8
  have hm : n + s.size ≤ maxLen := by unfold maxLen; omega
  obtain ⟨v', w', hr, h2, h3, _⟩ := Lib.run_append_own_stringF (P := Try.prog) w H 148 9 148 5 i0 Try.underlying148 Try.underlying9 hi hz0 hz1 hz2 v n xs hown s hm h63 hH
  refine ⟨v', w', hr, h2, h3, ?_⟩
  rcases hown.2 with ⟨rfl, rfl⟩ | ⟨g, cap, cur, fz, rfl, _, hg, hfz, hnc, _, hcs, _⟩
  · obtain ⟨v2, w2, hr2, h22, _, _⟩ := Lib.run_append_own_stringF (P := Try.prog) w w.heap.size 148 9 148 5 i0 Try.underlying148 Try.underlying9 hi hz0 hz1 hz2 (.slice none 0 0) 0 xs ⟨hown.1, .inl ⟨rfl, rfl⟩⟩ s hm h63 (Nat.le_refl _)
    rw [hr] at hr2
    obtain ⟨rfl, rfl⟩ : v' = v2 ∧ w' = w2 := by injection hr2 with e1 e2; exact ⟨e1, e2⟩
    rcases h22.2 with ⟨_, h0⟩ | ⟨g, cap, cur, fz, rfl, hb, _⟩
    · omega
    · exact .inr ⟨g, rfl, hb⟩
  · by_cases hroom : n + s.size ≤ cap
    · have hr2 := Lib.run_append_room_stringF (P := Try.prog) w 148 9 148 5 i0 Try.underlying148 Try.underlying9 hi hz1 g n cap cur fz hg (by simpa using hfz) s hroom (by rw [hcs]; omega)
      rw [hr] at hr2
      injection hr2 with e1 _
      subst e1
      exact .inl rfl
    · have hr2 := Lib.run_append_grow_string (P := Try.prog) w 148 9 148 5 i0 (.int .u8 0) Try.underlying148 Try.underlying9 hi hz0 ⟨g, 0, none⟩ n cap xs (by rw [hz1]; exact hown.1) (hown.cells (g := g) rfl) s (by omega) (by omega) (by rw [hz2]; exact growslice_fits (by omega) (by omega))
      rw [hr] at hr2
      injection hr2 with e1 _
      subst e1
      exact .inr ⟨_, rfl, Nat.le_refl _⟩

end Go.Proofs.Ytkdhchdhgmaolaa.Va
