/-
  The law's own: the chapter's examples.
-/
import Derived.Test.YtdgeofmnoabilaaGreatDoorZTzJ
import Derived.Test.YtdgeofmnoabilaaGreatDoorZTzE
import Derived.KernelRfl
set_option linter.unusedVariables false
namespace Go.Proofs.YtdgeofmnoabilaaGreatDoor.Ty
open Go.RowKit
open Ex Lx

def exX1 : T := ⟨30, 0, [], .cons 6 0 [101] .nil (.cons 4 0 [114, 101, 100] .nil .nil)⟩
def exX2 : T := ⟨30, 0, [], .cons 6 0 [101] .nil (.cons 4 0 [103, 114, 101, 101, 110] .nil .nil)⟩
def exX3 : T := ⟨23, 0, [], .cons 6 0 [102] .nil (.cons 1 1 [] .nil .nil)⟩
def exS : Sc := ⟨[⟨[99, 111, 108, 111, 114], [[114, 101, 100], [98, 108, 117, 101]]⟩], [⟨[101], 4, [99, 111, 108, 111, 114]⟩], []⟩
theorem ex_of1 : ofM exS exX1 = (⟨2, [], []⟩, 0) := by kernel_rfl
theorem ex_of2 : ofM exS exX2 = (TT.zero, 23) := by kernel_rfl
theorem ex_of3 : ofM exS exX3 = (TT.zero, 20) := by kernel_rfl
theorem exS_fit : ScFit exS := ⟨by decide, by decide, by decide, by decide, by decide, by decide⟩

def exT1 : List TA := (scanM [101, 32, 61, 61, 32, 39, 114, 101, 100] 0).1
def exT2 : List TA := (scanM [101, 32, 61, 61, 32, 39, 103, 114, 101, 101, 110] 0).1
def exT3 : List TA := (scanM [102, 32, 43, 32, 49] 0).1
theorem ex_s1 : scanM (⟨#[101, 32, 61, 61, 32, 39, 114, 101, 100]⟩ : ByteArray).data.toList 0 = (exT1, none) := by kernel_rfl
theorem ex_s2 : scanM (⟨#[101, 32, 61, 61, 32, 39, 103, 114, 101, 101, 110]⟩ : ByteArray).data.toList 0 = (exT2, none) := by kernel_rfl
theorem ex_s3 : scanM (⟨#[102, 32, 43, 32, 49]⟩ : ByteArray).data.toList 0 = (exT3, none) := by kernel_rfl
theorem ex_p1 : parseM exT1 0 = .ok exX1 ⟨3, 3, 0⟩ := by kernel_rfl
theorem ex_p2 : parseM exT2 0 = .ok exX2 ⟨3, 3, 0⟩ := by kernel_rfl
theorem ex_p3 : parseM exT3 0 = .ok exX3 ⟨3, 3, 0⟩ := by kernel_rfl
theorem ex_e1 : 3 + 1 = exT1.length := by kernel_rfl
theorem ex_e2 : 3 + 1 = exT2.length := by kernel_rfl
theorem ex_e3 : 3 + 1 = exT3.length := by kernel_rfl

/-- What Read answers of a text that is an expression. -/
def RdP (w : World) (x : T) (e : Ending) (w' : World) : Prop := (∃ p c, e = .returned (.tuple #[.agg #[.int .i64 x.op, .int .i64 x.num, .string (S x.text), .slice p x.args.len c], .int .i64 0, .int .i64 0]) ∧ FAt w' (fun _ => True) x.args p) ∧ Below w.heap.size w w'
theorem read_ex (s : ByteArray) (hs : s.size ≤ 8000) (ts : List TA) (h1 : scanM s.data.toList 0 = (ts, none)) (x : T) (s2 : St) (h2 : parseM ts 0 = .ok x s2) (h3 : s2.at_ + 1 = ts.length) (w : World) :
    Calls Tryz.prog 20 #[.string s] w (RdP w x) :=
  (refRead_ok s hs ts h1 x s2 h2 h3 w).mono fun e w' ⟨⟨p, c, h, f⟩, b⟩ => ⟨⟨p, c, h, FAt.mono (fun _ _ _ => trivial) _ _ f⟩, b⟩
theorem exS_at (w w' : World) (k : Below (((w.alloc (.cells #[.string ⟨#[114, 101, 100]⟩, .string ⟨#[98, 108, 117, 101]⟩] 9)).alloc (.cells #[.string ⟨#[99, 111, 108, 111, 114]⟩, .slice (some ⟨w.heap.size, 0, none⟩) 2 2] 73)).alloc (.cells #[.string ⟨#[101]⟩, .int .i64 4, .string ⟨#[99, 111, 108, 111, 114]⟩] 42)).heap.size (((w.alloc (.cells #[.string ⟨#[114, 101, 100]⟩, .string ⟨#[98, 108, 117, 101]⟩] 9)).alloc (.cells #[.string ⟨#[99, 111, 108, 111, 114]⟩, .slice (some ⟨w.heap.size, 0, none⟩) 2 2] 73)).alloc (.cells #[.string ⟨#[101]⟩, .int .i64 4, .string ⟨#[99, 111, 108, 111, 114]⟩] 42)) w') : ScAt w' (some ⟨w.heap.size + 1, 0, none⟩) (some ⟨w.heap.size + 1 + 1, 0, none⟩) none exS := by
  have h2 := (k.block (w.heap.size + 1 + 1) (by simp)).trans (new_box _ _ _ _ (by simp))
  have h1 := ((k.block (w.heap.size + 1) (by simp)).trans (((Below.refl _ _).alloc (Nat.le_refl _) _).block (w.heap.size + 1) (by simp))).trans (new_box _ _ _ _ (by simp))
  have h0 := (((k.block w.heap.size (by simp; omega)).trans (((Below.refl _ _).alloc (Nat.le_refl _) _).block w.heap.size (by simp; omega))).trans (((Below.refl _ _).alloc (Nat.le_refl _) _).block w.heap.size (by simp))).trans (heap_alloc_new w _)
  have l2 := (Array.getElem?_eq_some_iff.1 h2).1
  refine ⟨fun i hi => ?_, fun i hi => ?_, fun i hi => absurd hi (Nat.not_lt_zero _)⟩
  · obtain rfl : i = 0 := by have : i < 1 := hi; omega
    refine ⟨w.heap.size + 1, 0, some ⟨w.heap.size, 0, none⟩, 2, rfl, by omega, cell_of_row w' _ 0 _ _ (0, 0) h1, cell_of_row w' _ 1 _ _ (0, 0) h1, fun j hj => ?_⟩
    have hj2 : j = 0 ∨ j = 1 := by have : j < 2 := hj; omega
    rcases hj2 with rfl | rfl
    · exact ⟨w.heap.size, 0, rfl, by omega, cell_of_row w' _ 0 _ _ (0, 0) h0⟩
    · exact ⟨w.heap.size, 0, rfl, by omega, cell_of_row w' _ 1 _ _ (0, 0) h0⟩
  · obtain rfl : i = 0 := by have : i < 1 := hi; omega
    exact ⟨w.heap.size + 1 + 1, 0, rfl, by omega, cell_of_row w' _ 0 _ _ (0, 0) h2, cell_of_row w' _ 1 _ _ (0, 0) h2, cell_of_row w' _ 2 _ _ (0, 0) h2⟩
theorem of_ex (x : T) (hf : x.row.fits) (hn : x.row.nums) (k n : Int) (r : TT × Nat) (hr : ofM exS x = r) (hk : r.1 = ⟨k, [], []⟩) (hn2 : (r.2 : Int) = n) (w0 : World) (htab : Va.Tab w0) (hC : ConsAt w0) (pe pa : Option Addr) (p : Option Addr) (c : Nat) (w : World) (b : Below w0.heap.size w0 w) (hs : ScAt w pe pa none exS) (hfa : FAt w (fun _ => True) x.args p) :
    Calls Tryz.prog 11 #[.slice pe 1 1, .slice pa 1 1, .slice none 0 0, .agg #[.int .i64 x.op, .int .i64 x.num, .string (S x.text), .slice p x.args.len c]] w fun e w' => e = .returned (.tuple #[.agg #[.int .i64 k, .string ⟨#[]⟩, .string ⟨#[]⟩], .int .i64 n]) ∧ Below w.heap.size w w' := by
  subst hr hn2
  refine (of_any exS pe pa none 1 1 0 exS_fit x hf hn p c w hs hfa (htab.below b) (hC.keep (Kept.of_below (ok := fun _ => True) b) trivial)).mono ?_
  rintro e w' ⟨h1, h2⟩
  refine ⟨h1.trans ?_, h2⟩
  unfold retT
  rw [hk]
  rfl

set_option linter.unusedVariables false
set_option linter.unusedSimpArgs false
set_option maxRecDepth 100000 in
set_option maxHeartbeats 8000000 in
theorem awake_any (w : World) (htab : Va.Tab w) (hC : ConsAt w) : Calls Tryz.prog 9 #[] w fun e w' => e = .returned (.bool true) ∧ Below w.heap.size w w' := by
  have hb3 := (((Below.refl w.heap.size w).alloc (Nat.le_refl _) (.cells #[.string ⟨#[114, 101, 100]⟩, .string ⟨#[98, 108, 117, 101]⟩] 9)).alloc (by simp) (.cells #[.string ⟨#[99, 111, 108, 111, 114]⟩, .slice (some ⟨w.heap.size, 0, none⟩) 2 2] 73)).alloc (by simp; omega) (.cells #[.string ⟨#[101]⟩, .int .i64 4, .string ⟨#[99, 111, 108, 111, 114]⟩] 42)
  obtain ⟨W3, hW3⟩ : ∃ W3, W3 = ((w.alloc (.cells #[.string ⟨#[114, 101, 100]⟩, .string ⟨#[98, 108, 117, 101]⟩] 9)).alloc (.cells #[.string ⟨#[99, 111, 108, 111, 114]⟩, .slice (some ⟨w.heap.size, 0, none⟩) 2 2] 73)).alloc (.cells #[.string ⟨#[101]⟩, .int .i64 4, .string ⟨#[99, 111, 108, 111, 114]⟩] 42) := ⟨_, rfl⟩
  have hex := exS_at w
  rw [← hW3] at hb3 hex
  have HTAB := Lib.hid htab
  have HC := Lib.hid hC
  have HB3 := Lib.hid hb3
  have HEX := Lib.hid hex
  have R1 := Lib.hid (fun wr => read_ex ⟨#[101, 32, 61, 61, 32, 39, 114, 101, 100]⟩ (by decide) exT1 ex_s1 exX1 _ ex_p1 ex_e1 wr)
  have R2 := Lib.hid (fun wr => read_ex ⟨#[101, 32, 61, 61, 32, 39, 103, 114, 101, 101, 110]⟩ (by decide) exT2 ex_s2 exX2 _ ex_p2 ex_e2 wr)
  have R3 := Lib.hid (fun wr => read_ex ⟨#[102, 32, 43, 32, 49]⟩ (by decide) exT3 ex_s3 exX3 _ ex_p3 ex_e3 wr)
  have O1 := Lib.hid (of_ex exX1 (by simp [exX1, T.row, F.fits, F.len]) (by simp [exX1, T.row, F.nums]) 2 0 _ ex_of1 rfl rfl w htab hC)
  have O2 := Lib.hid (of_ex exX2 (by simp [exX2, T.row, F.fits, F.len]) (by simp [exX2, T.row, F.nums]) 0 23 _ ex_of2 rfl rfl w htab hC)
  have O3 := Lib.hid (of_ex exX3 (by simp [exX3, T.row, F.fits, F.len]) (by simp [exX3, T.row, F.nums]) 0 20 _ ex_of3 rfl rfl w htab hC)
  clear htab hC hb3 hex
  go_enter Tryz.func9, Tryz.ntmps9
  go_wp2_with fail
  rw [← hW3]
  have HW3 := Lib.hid hW3
  clear hW3
  refine (R1.out W3).mono ?_
  rintro e w1 ⟨⟨p1, c1, rfl, fa1⟩, b1⟩
  have HA1 := Lib.hid fa1
  have HB1 := Lib.hid b1
  clear fa1 b1
  generalize exX1 = X1 at *
  go_wp2_with fail
  have ba1 := (Below.refl w1.heap.size w1).alloc (Nat.le_refl _) (.cells #[.int .i64 X1.op, .int .i64 X1.num, .string (S X1.text), .slice p1 X1.args.len c1] 28)
  have HX1 := Lib.hid (Bx.new w1 (.int .i64 X1.op) (.int .i64 X1.num) (.string (S X1.text)) (.slice p1 X1.args.len c1))
  have HB1a := Lib.hid (HB1.out.trans (ba1.mono HB1.out.size))
  have HA1a := Lib.hid (HA1.out.keep (Kept.of_below ba1))
  clear ba1
  refine (R2.out _).mono ?_
  rintro e w2 ⟨⟨p2, c2, rfl, fa2⟩, b2⟩
  have HA2 := Lib.hid fa2
  have HB2 := Lib.hid (HB1a.out.trans (b2.mono HB1a.out.size))
  have HX1b := Lib.hid (HX1.out.keep (Kept.of_below (ok := fun _ => True) b2) trivial)
  have HA1b := Lib.hid (HA1a.out.keep (Kept.of_below b2))
  clear fa2 b2
  generalize exX2 = X2 at *
  go_wp2_with fail
  have ba2 := (Below.refl w2.heap.size w2).alloc (Nat.le_refl _) (.cells #[.int .i64 X2.op, .int .i64 X2.num, .string (S X2.text), .slice p2 X2.args.len c2] 28)
  have HX2 := Lib.hid (Bx.new w2 (.int .i64 X2.op) (.int .i64 X2.num) (.string (S X2.text)) (.slice p2 X2.args.len c2))
  have HB2a := Lib.hid (HB2.out.trans (ba2.mono HB2.out.size))
  have HX1c := Lib.hid (HX1b.out.keep (Kept.of_below (ok := fun _ => True) ba2) trivial)
  have HA1c := Lib.hid (HA1b.out.keep (Kept.of_below ba2))
  have HA2a := Lib.hid (HA2.out.keep (Kept.of_below ba2))
  clear ba2
  refine (R3.out _).mono ?_
  rintro e w3 ⟨⟨p3, c3, rfl, fa3⟩, b3⟩
  have ba3 := b3.trans (((Below.refl w3.heap.size w3).alloc (Nat.le_refl _) (.cells #[.int .i64 exX3.op, .int .i64 exX3.num, .string (S exX3.text), .slice p3 exX3.args.len c3] 28)).mono b3.size)
  have HB3a := Lib.hid (HB2a.out.trans (ba3.mono HB2a.out.size))
  have hx1 := HX1c.out.keep (Kept.of_below (ok := fun _ => True) ba3) trivial
  have HA1d := Lib.hid (HA1c.out.keep (Kept.of_below ba3))
  have hx2 := HX2.out.keep (Kept.of_below (ok := fun _ => True) ba3) trivial
  have HA2b := Lib.hid (HA2a.out.keep (Kept.of_below ba3))
  have hx3 := Bx.new w3 (.int .i64 exX3.op) (.int .i64 exX3.num) (.string (S exX3.text)) (.slice p3 exX3.args.len c3)
  have HA3 := Lib.hid (fa3.keep (Kept.alloc w3 (.cells #[.int .i64 exX3.op, .int .i64 exX3.num, .string (S exX3.text), .slice p3 exX3.args.len c3] 28)))
  obtain ⟨W6, hW6⟩ : ∃ W6, W6 = w3.alloc (.cells #[.int .i64 exX3.op, .int .i64 exX3.num, .string (S exX3.text), .slice p3 exX3.args.len c3] 28) := ⟨_, rfl⟩
  rw [← hW6] at HB3a hx1 HA1d hx2 HA2b hx3 HA3
  have HX1 := Lib.hid hx1
  have HX2 := Lib.hid hx2
  have HX3 := Lib.hid hx3
  rw [hW6] at hx1
  have qa0 := hx1.c0
  have qa1 := hx1.c1
  have qa2 := hx1.c2
  have qa3 := hx1.c3
  have hy1 := HX1c.out.keep (Kept.of_below (ok := fun _ => True) b3) trivial
  have qb0 := hy1.c0
  have qb1 := hy1.c1
  have qb2 := hy1.c2
  have qb3 := hy1.c3
  have hlt1 := hy1.lt
  have HW6 := Lib.hid hW6
  clear fa3 b3 ba3 hx1 hx2 hx3 hy1 hW6
  generalize exX3 = X3 at *
  go_wp2_with fail
  rw [← HW6.out]
  refine (O1.out _ _ p1 c1 W6 (HB3.out.trans (HB3a.out.mono HB3.out.size)) (HEX.out W6 HB3a.out) HA1d.out).mono ?_
  rintro e w4 ⟨rfl, b4⟩
  clear qa0 qa1 qa2 qa3 qb0 qb1 qb2 qb3 hlt1
  have ba4 := b4.trans (((Below.refl w4.heap.size w4).alloc (Nat.le_refl _) (.cells #[.int .i64 2, .string ⟨#[]⟩, .string ⟨#[]⟩] 31)).mono b4.size)
  have HB4 := Lib.hid (HB3a.out.trans (ba4.mono HB3a.out.size))
  have hx2 := HX2.out.keep (Kept.of_below (ok := fun _ => True) ba4) trivial
  have hx3 := HX3.out.keep (Kept.of_below (ok := fun _ => True) ba4) trivial
  have hy2 := HX2.out.keep (Kept.of_below (ok := fun _ => True) b4) trivial
  have qa0 := hx2.c0
  have qa1 := hx2.c1
  have qa2 := hx2.c2
  have qa3 := hx2.c3
  have qb0 := hy2.c0
  have qb1 := hy2.c1
  have qb2 := hy2.c2
  have qb3 := hy2.c3
  have hlt2 := hy2.lt
  have HX3b := Lib.hid hx3
  have HA2c := Lib.hid (HA2b.out.keep (Kept.of_below ba4))
  have HA3b := Lib.hid (HA3.out.keep (Kept.of_below ba4))
  have HT4 := Lib.hid (heap_alloc_new w4 (.cells #[.int .i64 2, .string ⟨#[]⟩, .string ⟨#[]⟩] 31))
  obtain ⟨W8, hW8⟩ : ∃ W8, W8 = w4.alloc (.cells #[.int .i64 2, .string ⟨#[]⟩, .string ⟨#[]⟩] 31) := ⟨_, rfl⟩
  rw [← hW8] at HB4 HX3b HA2c HA3b HT4
  have HW8 := Lib.hid hW8
  clear b4 ba4 hx2 hx3 hy2 hW8
  go_wp2_with fail
  rw [← HW8.out]
  refine (O2.out _ _ p2 c2 W8 (HB3.out.trans (HB4.out.mono HB3.out.size)) (HEX.out W8 HB4.out) HA2c.out).mono ?_
  rintro e w5 ⟨rfl, b5⟩
  clear qa0 qa1 qa2 qa3 qb0 qb1 qb2 qb3 hlt2
  have ba5 := b5.trans (((Below.refl w5.heap.size w5).alloc (Nat.le_refl _) (.cells #[.int .i64 0, .string ⟨#[]⟩, .string ⟨#[]⟩] 31)).mono b5.size)
  have HB5 := Lib.hid (HB4.out.trans (ba5.mono HB4.out.size))
  have hx3 := HX3b.out.keep (Kept.of_below (ok := fun _ => True) ba5) trivial
  have hy3 := HX3b.out.keep (Kept.of_below (ok := fun _ => True) b5) trivial
  have qa0 := hx3.c0
  have qa1 := hx3.c1
  have qa2 := hx3.c2
  have qa3 := hx3.c3
  have qb0 := hy3.c0
  have qb1 := hy3.c1
  have qb2 := hy3.c2
  have qb3 := hy3.c3
  have hlt3 := hy3.lt
  have HA3c := Lib.hid (HA3b.out.keep (Kept.of_below ba5))
  have HT5 := Lib.hid ((ba5.block w4.heap.size (Array.getElem?_eq_some_iff.1 HT4.out).1).trans HT4.out)
  obtain ⟨W9, hW9⟩ : ∃ W9, W9 = w5.alloc (.cells #[.int .i64 0, .string ⟨#[]⟩, .string ⟨#[]⟩] 31) := ⟨_, rfl⟩
  rw [← hW9] at HB5 HA3c HT5
  have HW9 := Lib.hid hW9
  clear b5 ba5 hx3 hy3 hW9
  go_wp2_with fail
  rw [← HW9.out]
  refine (O3.out _ _ p3 c3 W9 (HB3.out.trans (HB5.out.mono HB3.out.size)) (HEX.out W9 HB5.out) HA3c.out).mono ?_
  rintro e w6 ⟨rfl, b6⟩
  clear qa0 qa1 qa2 qa3 qb0 qb1 qb2 qb3 hlt3
  have ba6 := b6.trans (((Below.refl w6.heap.size w6).alloc (Nat.le_refl _) (.cells #[.int .i64 0, .string ⟨#[]⟩, .string ⟨#[]⟩] 31)).mono b6.size)
  have HB6 := Lib.hid (HB5.out.trans (ba6.mono HB5.out.size))
  have t6 := cell_of_row _ w4.heap.size 0 _ _ (0, 0) ((ba6.block w4.heap.size (Array.getElem?_eq_some_iff.1 HT5.out).1).trans HT5.out)
  have t6b := cell_of_row _ w4.heap.size 0 _ _ (0, 0) ((b6.block w4.heap.size (Array.getElem?_eq_some_iff.1 HT5.out).1).trans HT5.out)
  have hlt4 : w4.heap.size < w6.heap.size := Nat.lt_of_lt_of_le (Array.getElem?_eq_some_iff.1 HT5.out).1 b6.size
  simp only [List.getElem?_toArray, List.getElem?_cons_zero] at t6 t6b
  clear b6 ba6
  go_wp2_with fail
  go_ret
  exact ⟨rfl, HB3.out.trans (HB6.out.mono HB3.out.size)⟩

end Go.Proofs.YtdgeofmnoabilaaGreatDoor.Ty
