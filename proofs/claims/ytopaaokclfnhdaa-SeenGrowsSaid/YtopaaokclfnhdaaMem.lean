/-
  Rows of bytes in memory, and what is done to them: small lemmas on worlds.
-/
import Derived.Test.YtopaaokclfnhdaaRows
import Derived.WalkKit
import Derived.WalkSpells
import Derived.WalkLawsBesides
import Derived.Lib.Hide
namespace Go.Proofs.Ytopaaokclfnhdaa
open Go.RowKit

/-- A row of bytes in memory. -/
def Row8 (w : World) (b : Nat) (l : List UInt8) : Prop :=
  ∀ j, j < l.length → w.cell? ⟨b, j, none⟩ = some (.int .u8 ((l.getD j 0).toNat : Int)) ∧ w.frozen? ⟨b, j, none⟩ = false

theorem Row8.set {w : World} {b : Nat} {l : List UInt8} (h : Row8 w b l) (k : Nat) (c : UInt8) (hk : k < l.length) (v : Int) (hv : v = (c.toNat : Int)) :
    Row8 (w.setCell ⟨b, k, none⟩ (.int .u8 v)) b (l.set k c) := by
  intro j hj
  rw [List.length_set] at hj
  have hj0 := h j hj
  refine ⟨?_, by rw [World.frozen?_setCell]; exact hj0.2⟩
  by_cases e : j = k
  · subst e
    rw [World.cell?_setCell_same (w := w) (a := ⟨b, j, none⟩) (v := .int .u8 v) (h := hj0.1), hv]
    simp [List.getD, hj]
  · rw [World.cell?_setCell_other (w := w) (a := ⟨b, k, none⟩) (b := ⟨b, j, none⟩) (v := .int .u8 v) (h := by intro h; injection h with _ h2 _; exact e h2.symm), hj0.1]
    simp [List.getD, List.getElem?_set_ne (Ne.symm e)]

theorem Row8.later {w w' : World} {b : Nat} {l : List UInt8} (h : Row8 w b l) (hb : Below w.heap.size w w') : Row8 w' b l := by
  intro j hj
  have h1 := h j hj
  have hlt := World.block_lt_of_cell? w _ h1.1
  exact ⟨(hb.cell (p := ⟨b, j, none⟩) hlt).trans h1.1, (hb.frozen (p := ⟨b, j, none⟩) hlt).trans h1.2⟩

theorem Row8.back {P : Program} {w : World} {b : Nat} {l : List UInt8} (h : Row8 w b l) (src dst e : TypeId) (cap : Nat) (hs : P.underlying src = some (.slice e)) (he : P.underlying e = some (.int .u8)) (hd : P.underlying dst = some .string)
    (n : Nat) (hn : n = l.length) : (convert src dst (.slice (some ⟨b, 0, none⟩) n cap)).run P w = .ok (.string ⟨l.toArray⟩) w := by
  subst hn
  refine run_convert_bytes_back (P := P) w src dst e ⟨b, 0, none⟩ cap l hs he hd ?_
  intro j hj
  have := (h j hj).1
  have hplain : (⟨b, 0, none⟩ : Addr).add j = ⟨b, j, none⟩ := by unfold Addr.add; split <;> simp_all
  rw [hplain]
  simpa [List.getD, List.getElem?_eq_getElem hj] using this

/-- An owned row of bytes is a row of bytes. -/
theorem Row8.of_owns {w : World} {base e g n cap : Nat} {l : List UInt8} (h : w.ownsRow base e 1 (.slice (some ⟨g, 0, none⟩) n cap) n (l.map fun c => .int .u8 (c.toNat : Int))) : Row8 w g l := by
  intro j hj
  have hlen : (l.map fun c => Value.int .u8 (c.toNat : Int)).length = n * 1 := h.1
  refine ⟨?_, h.frozenAt j⟩
  rw [h.cellAt j (by rw [← hlen]; simpa using hj)]
  simp [List.getD, hj]

/-- Two steps of 'nothing that was there has changed'. -/
theorem two {a b c : World} (h : Below a.heap.size a b) (k : Below b.heap.size b c) : Below a.heap.size a c := h.trans (k.mono h.size)

theorem byte_lt (c : UInt8) : ((c.toNat : Nat) : Int) < 256 := by
  have : c.toNat < 256 := c.toNat_lt
  omega

theorem info8 : (Try.prog.info? 5).map (fun i => (i.zero, i.size, i.bytes)) = some (some (.int .u8 0), 1, 1) := by kernel_rfl

/-- What owns something lies somewhere. -/
theorem owned_shape {w : World} {base e size n : Nat} {v : Value} {xs : List Value} (h : w.ownsRow base e size v n xs) (hn : 0 < n) :
    ∃ g cap, v = .slice (some ⟨g, 0, none⟩) n cap ∧ base ≤ g := by
  rcases h.2 with ⟨_, h0⟩ | ⟨g, cap, cur, hv, hb, _⟩
  · omega
  · exact ⟨g, cap, hv, hb⟩

theorem own_block {w : World} {base e size n : Nat} {v : Value} {xs : List Value} (h : w.ownsRow base e size v n xs) (k : Nat) (hk : v.ownBlock = some k) : base ≤ k := (h.lt k hk).1

/-- Bytes as a Go string. -/
def S (l : List UInt8) : ByteArray := ⟨l.toArray⟩
theorem S_size (l : List UInt8) : (S l).size = l.length := by show l.toArray.size = _; simp
theorem S_append (a b : List UInt8) : S a ++ S b = S (a ++ b) := by
  unfold S
  apply ByteArray.ext
  simp
theorem S_list (s : ByteArray) : S s.data.toList = s := by unfold S; simp
theorem S_toList (l : List UInt8) : (S l).data.toList = l := by simp [S]
theorem S_inj {a b : List UInt8} (h : S a = S b) : a = b := by
  have := congrArg (fun s => s.data.toList) h
  simpa [S] using this

theorem not_i64 (n : Int) (h0 : -9223372036854775808 ≤ n) (h1 : n < 9223372036854775808) : bits .xor .i64 (-1) n = -1 - n := by
  have e : bits .xor .i64 (-1) n = IntKind.i64.wrap (((BitVec.ofInt 64 (-1) ^^^ BitVec.ofInt 64 n).toNat : Nat) : Int) := rfl
  have e1 : BitVec.ofInt 64 (-1) = BitVec.allOnes 64 := by decide
  rw [e, e1, BitVec.allOnes_xor, BitVec.toNat_not, IntKind.wrap_i64]
  have e2 : ((BitVec.ofInt 64 n).toNat : Int) = n % 18446744073709551616 := by
    rw [BitVec.toNat_ofInt]
    omega
  omega

theorem S_extract (s : ByteArray) (a b : Nat) : s.extract a b = S ((s.data.toList.drop a).take (b - a)) := by
  apply ByteArray.ext
  rw [ByteArray.data_extract]
  apply Array.toList_inj.1
  rw [Array.toList_extract]
  simp [S, List.extract]

theorem getElem_list (s : ByteArray) (k : Nat) (h : k < s.size) : s.data.toList.getD k 0 = s[k] := by
  have hd : k < s.data.size := h
  simp [List.getD, Array.getElem?_eq_getElem hd]
  rfl
theorem list_size (s : ByteArray) : s.data.toList.length = s.size := by simp

/-- It fits 64 bits. (A structure: the walk does not look into it.) -/
structure U64 (n : Nat) : Prop where
  lt : n < 18446744073709551616

end Go.Proofs.Ytopaaokclfnhdaa
