/-
  The document's own answer for values: the text of a Text.
-/
import Derived.Test.YtgfgafpaokefhaaZVaDec
import Derived.Deep.AppendLies
namespace Go.Proofs.Ytgfgafpaokefhaa.Va
open Go.RowKit

def u8C (l : List UInt8) : List Value := l.map fun c => .int .u8 (c.toNat : Int)
/-- Bytes that are collected, in what is new since B. -/
structure Buf (B : Nat) (W0 wr : World) (v : Value) (l : List UInt8) : Prop where
  own : wr.ownsRow B 5 1 v l.length (u8C l)
  below : Below B W0 wr
  hi : B ≤ wr.heap.size
theorem Buf.step {B : Nat} {W0 wr w' : World} {v v' : Value} {l : List UInt8} {c : UInt8} {x : Int} {o : Obj} (h : Buf B W0 wr v l) (hx : x = (c.toNat : Int)) (own : w'.ownsRow B 5 1 v' (l.length + 1) (u8C l ++ [.int .u8 x])) (gr : (wr.alloc o).grownBy w' v.ownBlock) : Buf B W0 w' v' (l ++ [c]) := by
  subst hx
  have hs := h.hi
  refine ⟨?_, (h.below.alloc hs o).grown gr (by simp; omega) (fun k hk => (h.own.lt k hk).1), ?_⟩
  · rw [List.length_append]
    have e : u8C (l ++ [c]) = u8C l ++ [.int .u8 (c.toNat : Int)] := by simp [u8C]
    rw [e]; exact own
  · have := gr.size; simp at this; omega
theorem news_one (w : World) (x : Value) (T : TypeId) (H : Nat) (hH : w.heap.size = H) : ∀ j u, ([x] : List Value)[j]? = some u → (w.alloc (.cells #[x] T)).cell? ((⟨H, 0, none⟩ : Addr).add j) = some u := fun j u hu => by
  subst hH
  rw [Addr.add_mid, cell_of_row _ _ _ _ _ (0, 0) (heap_alloc_new w _), Nat.zero_add]; simpa using hu
theorem one_int (x : Int) : ∀ u ∈ ([.int .u8 x] : List Value), u.oneCell' = true := by
  intro u hu
  simp only [List.mem_singleton] at hu
  subst hu; rfl
theorem escT_len (t : List UInt8) : (escT t).length ≤ 4 * t.length := by
  induction t with
  | nil => simp [escT]
  | cons c t ih =>
    have e1 : escT (c :: t) = esc c ++ escT t := rfl
    have : (esc c).length ≤ 4 := by unfold esc; split <;> (try split) <;> simp
    rw [e1, List.length_append, List.length_cons]; omega
theorem escT_snoc (t : List UInt8) (k : Nat) (h : k < t.length) : escT (t.take (k + 1)) = escT (t.take k) ++ esc (t.getD k 0) := by
  unfold escT
  rw [List.take_succ_eq_append_getElem h, List.flatMap_append]
  simp [List.getD, h]
def HEX : ByteArray := ⟨#[48, 49, 50, 51, 52, 53, 54, 55, 56, 57, 97, 98, 99, 100, 101, 102]⟩
theorem hex_at (k : Nat) (h : k < 16) : HEX.data.toList.getD k 0 = hexC k := by
  have : ∀ i : Fin 16, HEX.data.toList.getD i.val 0 = hexC i.val := by decide
  exact this ⟨k, h⟩
set_option maxRecDepth 100000 in
theorem run_hex (k : Nat) (h : k < 16) (w : World) : (Instr.index 9 (.string ⟨#[48, 49, 50, 51, 52, 53, 54, 55, 56, 57, 97, 98, 99, 100, 101, 102]⟩) (.int .u8 (k : Int))).run Try.prog w = .ok (.int .u8 ((hexC k).toNat : Int)) w := by
  have : ∀ i : Fin 16, ∀ w, (Instr.index 9 (.string ⟨#[48, 49, 50, 51, 52, 53, 54, 55, 56, 57, 97, 98, 99, 100, 101, 102]⟩) (.int .u8 (i.val : Int))).run Try.prog w = .ok (.int .u8 ((hexC i.val).toNat : Int)) w := by
    intro i w
    match i with
    | ⟨0, _⟩ => rfl
    | ⟨1, _⟩ => rfl
    | ⟨2, _⟩ => rfl
    | ⟨3, _⟩ => rfl
    | ⟨4, _⟩ => rfl
    | ⟨5, _⟩ => rfl
    | ⟨6, _⟩ => rfl
    | ⟨7, _⟩ => rfl
    | ⟨8, _⟩ => rfl
    | ⟨9, _⟩ => rfl
    | ⟨10, _⟩ => rfl
    | ⟨11, _⟩ => rfl
    | ⟨12, _⟩ => rfl
    | ⟨13, _⟩ => rfl
    | ⟨14, _⟩ => rfl
    | ⟨15, _⟩ => rfl
    | ⟨k + 16, h⟩ => omega
  exact this ⟨k, h⟩ w

set_option linter.unusedSimpArgs false
end Go.Proofs.Ytgfgafpaokefhaa.Va
