/-
  NARROWER THAN 'FOR EVERY INPUT', by the rows' own cells (each row's printed sentence says how): TypingOfs: loops, laid · EvalWholes: laid · EvalTyped: loops, laid · EvalSelves: laid · EvalShort: loops, laid · EvalOwn: loops, laid.
  DERIVED. THE GIVEN ROWS OF THIS SEAT. 6 by the template 'for every input the law returns true; each argument reads behind the call as it read before'; 0 by the template 'total and deterministic' (their statements: YtchjckdjkecjnaaGreatDoorTotals.lean).
  GIVEN WITH THE SEED: the statements are not yours to turn. If you find one false, say at which input.
  Laid BY PROGRAM, IN A SANDBOX (cutbox-rows.mjs): the forced cells as the released guide's own fill.sh prints them over the translation 614df6dc3edf4636… (all of the seat's roots in one cut). By AI agents, Wed Nov 11 2026. No macro, syntax, notation, axiom, sorry.
-/
import Derived.Test.YtchjckdjkecjnaaGreatDoorChecked
import GoSem.Claim
import GoSem.ClaimJoined
import GoSem.ClaimMapViews
import Derived.JoinedTies
import Derived.KernelRfl
namespace Go.Proofs.YtchjckdjkecjnaaGreatDoor
/- THE CELL 'sum', in the pinned program and in every row, IS THE sha256 OF THE DUMP (.gsa) THAT YtchjckdjkecjnaaGreatDoorProg.lean LOADS. Nothing in Lean hashes anything: it is a label: what it is worth is what the hold of that sum in a sandbox is worth. -/
noncomputable def Tryz.pinned : Pinned := { name := "ytchjckdjkecjnaagreatdoor", sum := "614df6dc3edf4636024535d37e2bf6318317bad1f5a7b6611f360aefe23d5c00", checked := Tryz.checked }
namespace Rows
def none {H : Type} : Left H := { results := [], args := [] }

/- WHAT THE LISTED PACKAGE-LEVEL VARIABLES READ AS WHEN THE CALL BEGINS. Each datum BY PROGRAM (the guide's laid-datum.mjs) off the statement by which the dump's own 'gosem.cut.vars' lays the variable. In a bare row this is a premise. The card (YtchjckdjkecjnaaGreatDoorCards.lean) ties it to the program's text. -/
def laid_math_bits_deBruijn32tab {H : Type} : DataW H := .agg [.lit (.int .u8 0), .lit (.int .u8 1), .lit (.int .u8 28), .lit (.int .u8 2), .lit (.int .u8 29), .lit (.int .u8 14), .lit (.int .u8 24), .lit (.int .u8 3), .lit (.int .u8 30), .lit (.int .u8 22), .lit (.int .u8 20), .lit (.int .u8 15), .lit (.int .u8 25), .lit (.int .u8 17), .lit (.int .u8 4), .lit (.int .u8 8), .lit (.int .u8 31), .lit (.int .u8 27), .lit (.int .u8 13), .lit (.int .u8 23), .lit (.int .u8 21), .lit (.int .u8 19), .lit (.int .u8 16), .lit (.int .u8 7), .lit (.int .u8 26), .lit (.int .u8 12), .lit (.int .u8 18), .lit (.int .u8 6), .lit (.int .u8 11), .lit (.int .u8 5), .lit (.int .u8 10), .lit (.int .u8 9)]
def laid_math_bits_deBruijn64tab {H : Type} : DataW H := .agg [.lit (.int .u8 0), .lit (.int .u8 1), .lit (.int .u8 56), .lit (.int .u8 2), .lit (.int .u8 57), .lit (.int .u8 49), .lit (.int .u8 28), .lit (.int .u8 3), .lit (.int .u8 61), .lit (.int .u8 58), .lit (.int .u8 42), .lit (.int .u8 50), .lit (.int .u8 38), .lit (.int .u8 29), .lit (.int .u8 17), .lit (.int .u8 4), .lit (.int .u8 62), .lit (.int .u8 47), .lit (.int .u8 59), .lit (.int .u8 36), .lit (.int .u8 45), .lit (.int .u8 43), .lit (.int .u8 51), .lit (.int .u8 22), .lit (.int .u8 53), .lit (.int .u8 39), .lit (.int .u8 33), .lit (.int .u8 30), .lit (.int .u8 24), .lit (.int .u8 18), .lit (.int .u8 12), .lit (.int .u8 5), .lit (.int .u8 63), .lit (.int .u8 55), .lit (.int .u8 48), .lit (.int .u8 27), .lit (.int .u8 60), .lit (.int .u8 41), .lit (.int .u8 37), .lit (.int .u8 16), .lit (.int .u8 46), .lit (.int .u8 35), .lit (.int .u8 44), .lit (.int .u8 21), .lit (.int .u8 52), .lit (.int .u8 32), .lit (.int .u8 23), .lit (.int .u8 11), .lit (.int .u8 54), .lit (.int .u8 26), .lit (.int .u8 40), .lit (.int .u8 15), .lit (.int .u8 34), .lit (.int .u8 20), .lit (.int .u8 31), .lit (.int .u8 10), .lit (.int .u8 25), .lit (.int .u8 14), .lit (.int .u8 19), .lit (.int .u8 9), .lit (.int .u8 13), .lit (.int .u8 8), .lit (.int .u8 7), .lit (.int .u8 6)]
def laid_internal_strconv_uint64pow10 {H : Type} : DataW H := .agg [.lit (.int .u64 1), .lit (.int .u64 10), .lit (.int .u64 100), .lit (.int .u64 1000), .lit (.int .u64 10000), .lit (.int .u64 100000), .lit (.int .u64 1000000), .lit (.int .u64 10000000), .lit (.int .u64 100000000), .lit (.int .u64 1000000000), .lit (.int .u64 10000000000), .lit (.int .u64 100000000000), .lit (.int .u64 1000000000000), .lit (.int .u64 10000000000000), .lit (.int .u64 100000000000000), .lit (.int .u64 1000000000000000), .lit (.int .u64 10000000000000000), .lit (.int .u64 100000000000000000), .lit (.int .u64 1000000000000000000), .lit (.int .u64 10000000000000000000)]
def laid_switchyard_expr_constructs {H : Type} : DataW H := .agg [.agg [.lit (.string [124, 124]), .lit (.int .i64 41), .lit (.int .i64 0), .lit (.int .i64 2), .lit (.bool false)], .agg [.lit (.string [38, 38]), .lit (.int .i64 40), .lit (.int .i64 1), .lit (.int .i64 2), .lit (.bool false)], .agg [.lit (.string [61, 61]), .lit (.int .i64 30), .lit (.int .i64 2), .lit (.int .i64 2), .lit (.bool false)], .agg [.lit (.string [33, 61]), .lit (.int .i64 31), .lit (.int .i64 2), .lit (.int .i64 2), .lit (.bool false)], .agg [.lit (.string [60]), .lit (.int .i64 32), .lit (.int .i64 2), .lit (.int .i64 2), .lit (.bool false)], .agg [.lit (.string [60, 61]), .lit (.int .i64 33), .lit (.int .i64 2), .lit (.int .i64 2), .lit (.bool false)], .agg [.lit (.string [62]), .lit (.int .i64 32), .lit (.int .i64 2), .lit (.int .i64 2), .lit (.bool true)], .agg [.lit (.string [62, 61]), .lit (.int .i64 33), .lit (.int .i64 2), .lit (.int .i64 2), .lit (.bool true)], .agg [.lit (.string [43]), .lit (.int .i64 23), .lit (.int .i64 3), .lit (.int .i64 2), .lit (.bool false)], .agg [.lit (.string [45]), .lit (.int .i64 24), .lit (.int .i64 3), .lit (.int .i64 2), .lit (.bool false)], .agg [.lit (.string [42]), .lit (.int .i64 20), .lit (.int .i64 4), .lit (.int .i64 2), .lit (.bool false)], .agg [.lit (.string [47]), .lit (.int .i64 21), .lit (.int .i64 4), .lit (.int .i64 2), .lit (.bool false)], .agg [.lit (.string [37]), .lit (.int .i64 22), .lit (.int .i64 4), .lit (.int .i64 2), .lit (.bool false)], .agg [.lit (.string [33]), .lit (.int .i64 10), .lit (.int .i64 5), .lit (.int .i64 1), .lit (.bool false)], .agg [.lit (.string [45]), .lit (.int .i64 11), .lit (.int .i64 5), .lit (.int .i64 1), .lit (.bool false)], .agg [.lit (.string [108, 101, 110]), .lit (.int .i64 12), .lit (.int .i64 6), .lit (.int .i64 1), .lit (.bool false)], .agg [.lit (.string [97, 116]), .lit (.int .i64 25), .lit (.int .i64 6), .lit (.int .i64 2), .lit (.bool false)], .agg [.lit (.string [112, 117, 115, 104]), .lit (.int .i64 26), .lit (.int .i64 6), .lit (.int .i64 2), .lit (.bool false)]]

/-- 'switchyardlaw09.TypingOfs': WHATEVER THE INPUT: true; the input reads as it did. -/
def typingOfsSpec : ChangeSpec := { name := "typingOfs", fn := fun _ => fun
  | [d1, d2] => { results := [.lit (.bool true)], args := [d1, d2] }
  | _ => none }
def typingOfsRow : OpenClaim := { program := "ytchjckdjkecjnaagreatdoor", sum := "614df6dc3edf4636024535d37e2bf6318317bad1f5a7b6611f360aefe23d5c00", func := "switchyard/switchyardlaw09.TypingOfs", spec := "typingOfs", inPlace := ["internal/abi.NoEscape", "internal/bytealg.MakeNoZero"], unfollowed := true, recurses := true, named := ["switchyard/expr.constructs", "internal/strconv.uint64pow10", "math/bits.deBruijn32tab", "math/bits.deBruijn64tab"], loops := true, apart := false, laid := [("math/bits.deBruijn32tab", laid_math_bits_deBruijn32tab), ("math/bits.deBruijn64tab", laid_math_bits_deBruijn64tab), ("internal/strconv.uint64pow10", laid_internal_strconv_uint64pow10), ("switchyard/expr.constructs", laid_switchyard_expr_constructs)] }
def TypingOfsSaid : Prop := typingOfsRow.holds Tryz.pinned (OpenSpec.ofChange typingOfsSpec)

/-- ITS FALSE NEIGHBOUR: 'it returns false'. Refute it at one input. -/
def typingOfsWrong : ChangeSpec := { name := "typingOfs", fn := fun _ => fun
  | [d1, d2] => { results := [.lit (.bool false)], args := [d1, d2] }
  | _ => none }
def TypingOfsWrongFalsely : Prop := typingOfsRow.holds Tryz.pinned (OpenSpec.ofChange typingOfsWrong)

/-- 'switchyardlaw10.EvalWholes': WHATEVER THE INPUT: true; the input reads as it did. -/
def evalWholesSpec : ChangeSpec := { name := "evalWholes", fn := fun _ => fun
  | [d1, d2, d3] => { results := [.lit (.bool true)], args := [d1, d2, d3] }
  | _ => none }
def evalWholesRow : OpenClaim := { program := "ytchjckdjkecjnaagreatdoor", sum := "614df6dc3edf4636024535d37e2bf6318317bad1f5a7b6611f360aefe23d5c00", func := "switchyard/switchyardlaw10.EvalWholes", spec := "evalWholes", inPlace := ["internal/abi.NoEscape", "internal/bytealg.MakeNoZero"], unfollowed := true, recurses := true, named := ["switchyard/expr.constructs", "internal/strconv.uint64pow10", "math/bits.deBruijn32tab", "math/bits.deBruijn64tab"], apart := false, laid := [("math/bits.deBruijn32tab", laid_math_bits_deBruijn32tab), ("math/bits.deBruijn64tab", laid_math_bits_deBruijn64tab), ("internal/strconv.uint64pow10", laid_internal_strconv_uint64pow10), ("switchyard/expr.constructs", laid_switchyard_expr_constructs)] }
def EvalWholesSaid : Prop := evalWholesRow.holds Tryz.pinned (OpenSpec.ofChange evalWholesSpec)

/-- ITS FALSE NEIGHBOUR: 'it returns false'. Refute it at one input. -/
def evalWholesWrong : ChangeSpec := { name := "evalWholes", fn := fun _ => fun
  | [d1, d2, d3] => { results := [.lit (.bool false)], args := [d1, d2, d3] }
  | _ => none }
def EvalWholesWrongFalsely : Prop := evalWholesRow.holds Tryz.pinned (OpenSpec.ofChange evalWholesWrong)

/-- 'switchyardlaw10.EvalTyped': WHATEVER THE INPUT: true; the input reads as it did. -/
def evalTypedSpec : ChangeSpec := { name := "evalTyped", fn := fun _ => fun
  | [d1, d2, d3] => { results := [.lit (.bool true)], args := [d1, d2, d3] }
  | _ => none }
def evalTypedRow : OpenClaim := { program := "ytchjckdjkecjnaagreatdoor", sum := "614df6dc3edf4636024535d37e2bf6318317bad1f5a7b6611f360aefe23d5c00", func := "switchyard/switchyardlaw10.EvalTyped", spec := "evalTyped", inPlace := ["internal/abi.NoEscape", "internal/bytealg.MakeNoZero"], unfollowed := true, recurses := true, named := ["switchyard/expr.constructs", "internal/strconv.uint64pow10", "math/bits.deBruijn32tab", "math/bits.deBruijn64tab"], loops := true, apart := false, laid := [("math/bits.deBruijn32tab", laid_math_bits_deBruijn32tab), ("math/bits.deBruijn64tab", laid_math_bits_deBruijn64tab), ("internal/strconv.uint64pow10", laid_internal_strconv_uint64pow10), ("switchyard/expr.constructs", laid_switchyard_expr_constructs)] }
def EvalTypedSaid : Prop := evalTypedRow.holds Tryz.pinned (OpenSpec.ofChange evalTypedSpec)

/-- ITS FALSE NEIGHBOUR: 'it returns false'. Refute it at one input. -/
def evalTypedWrong : ChangeSpec := { name := "evalTyped", fn := fun _ => fun
  | [d1, d2, d3] => { results := [.lit (.bool false)], args := [d1, d2, d3] }
  | _ => none }
def EvalTypedWrongFalsely : Prop := evalTypedRow.holds Tryz.pinned (OpenSpec.ofChange evalTypedWrong)

/-- 'switchyardlaw10.EvalSelves': WHATEVER THE INPUT: true; the input reads as it did. -/
def evalSelvesSpec : ChangeSpec := { name := "evalSelves", fn := fun _ => fun
  | [d1, d2] => { results := [.lit (.bool true)], args := [d1, d2] }
  | _ => none }
def evalSelvesRow : OpenClaim := { program := "ytchjckdjkecjnaagreatdoor", sum := "614df6dc3edf4636024535d37e2bf6318317bad1f5a7b6611f360aefe23d5c00", func := "switchyard/switchyardlaw10.EvalSelves", spec := "evalSelves", inPlace := ["internal/abi.NoEscape", "internal/bytealg.MakeNoZero"], unfollowed := true, recurses := true, named := ["switchyard/expr.constructs", "internal/strconv.uint64pow10", "math/bits.deBruijn32tab", "math/bits.deBruijn64tab"], apart := false, laid := [("math/bits.deBruijn32tab", laid_math_bits_deBruijn32tab), ("math/bits.deBruijn64tab", laid_math_bits_deBruijn64tab), ("internal/strconv.uint64pow10", laid_internal_strconv_uint64pow10), ("switchyard/expr.constructs", laid_switchyard_expr_constructs)] }
def EvalSelvesSaid : Prop := evalSelvesRow.holds Tryz.pinned (OpenSpec.ofChange evalSelvesSpec)

/-- ITS FALSE NEIGHBOUR: 'it returns false'. Refute it at one input. -/
def evalSelvesWrong : ChangeSpec := { name := "evalSelves", fn := fun _ => fun
  | [d1, d2] => { results := [.lit (.bool false)], args := [d1, d2] }
  | _ => none }
def EvalSelvesWrongFalsely : Prop := evalSelvesRow.holds Tryz.pinned (OpenSpec.ofChange evalSelvesWrong)

/-- 'switchyardlaw10.EvalShort': WHATEVER THE INPUT: true; the input reads as it did. -/
def evalShortSpec : ChangeSpec := { name := "evalShort", fn := fun _ => fun
  | [d1, d2, d3] => { results := [.lit (.bool true)], args := [d1, d2, d3] }
  | _ => none }
def evalShortRow : OpenClaim := { program := "ytchjckdjkecjnaagreatdoor", sum := "614df6dc3edf4636024535d37e2bf6318317bad1f5a7b6611f360aefe23d5c00", func := "switchyard/switchyardlaw10.EvalShort", spec := "evalShort", inPlace := ["internal/abi.NoEscape", "internal/bytealg.MakeNoZero"], unfollowed := true, recurses := true, named := ["switchyard/expr.constructs", "internal/strconv.uint64pow10", "math/bits.deBruijn32tab", "math/bits.deBruijn64tab"], loops := true, apart := false, laid := [("math/bits.deBruijn32tab", laid_math_bits_deBruijn32tab), ("math/bits.deBruijn64tab", laid_math_bits_deBruijn64tab), ("internal/strconv.uint64pow10", laid_internal_strconv_uint64pow10), ("switchyard/expr.constructs", laid_switchyard_expr_constructs)] }
def EvalShortSaid : Prop := evalShortRow.holds Tryz.pinned (OpenSpec.ofChange evalShortSpec)

/-- ITS FALSE NEIGHBOUR: 'it returns false'. Refute it at one input. -/
def evalShortWrong : ChangeSpec := { name := "evalShort", fn := fun _ => fun
  | [d1, d2, d3] => { results := [.lit (.bool false)], args := [d1, d2, d3] }
  | _ => none }
def EvalShortWrongFalsely : Prop := evalShortRow.holds Tryz.pinned (OpenSpec.ofChange evalShortWrong)

/-- 'switchyardlaw10.EvalOwn': WHATEVER THE INPUT: true; the input reads as it did. -/
def evalOwnSpec : ChangeSpec := { name := "evalOwn", fn := fun _ => fun
  | [d1, d2, d3] => { results := [.lit (.bool true)], args := [d1, d2, d3] }
  | _ => none }
def evalOwnRow : OpenClaim := { program := "ytchjckdjkecjnaagreatdoor", sum := "614df6dc3edf4636024535d37e2bf6318317bad1f5a7b6611f360aefe23d5c00", func := "switchyard/switchyardlaw10.EvalOwn", spec := "evalOwn", inPlace := ["internal/abi.NoEscape", "internal/bytealg.MakeNoZero"], unfollowed := true, recurses := true, named := ["switchyard/expr.constructs", "internal/strconv.uint64pow10", "math/bits.deBruijn32tab", "math/bits.deBruijn64tab"], loops := true, apart := false, laid := [("math/bits.deBruijn32tab", laid_math_bits_deBruijn32tab), ("math/bits.deBruijn64tab", laid_math_bits_deBruijn64tab), ("internal/strconv.uint64pow10", laid_internal_strconv_uint64pow10), ("switchyard/expr.constructs", laid_switchyard_expr_constructs)] }
def EvalOwnSaid : Prop := evalOwnRow.holds Tryz.pinned (OpenSpec.ofChange evalOwnSpec)

/-- ITS FALSE NEIGHBOUR: 'it returns false'. Refute it at one input. -/
def evalOwnWrong : ChangeSpec := { name := "evalOwn", fn := fun _ => fun
  | [d1, d2, d3] => { results := [.lit (.bool false)], args := [d1, d2, d3] }
  | _ => none }
def EvalOwnWrongFalsely : Prop := evalOwnRow.holds Tryz.pinned (OpenSpec.ofChange evalOwnWrong)

/- THE SECOND FORM. 'bulk': how many values and letters a reading holds, each counted each time it is reached (what is shared counts as often as it is met; a slice's spare places count too). A statement '..UptoSaid' is the law's where the arguments, and the package variables that the reading takes, are together of bulk at most 1048576: NARROWER than '..Said'. Prove '..Said' where nothing that the law and all that it calls make is longer than what came in: it says more and counts as full. Else prove '..UptoSaid'. A law counts once. -/
mutual
def uptoBulk {H : Type} : DataW H → Nat
  | .lit (.string bytes) => bytes.length + 1
  | .lit _ => 1
  | .nil => 1
  | .ptr d => uptoBulk d + 1
  | .slice elems spare => uptoBulkAll elems + uptoBulkAll spare + 1
  | .agg parts => uptoBulkAll parts + 1
  | .iface _ d => uptoBulk d + 1
  | .map entries => uptoBulkEntries entries + 1
  | .held _ => 1
def uptoBulkAll {H : Type} : List (DataW H) → Nat
  | [] => 0
  | d :: r => uptoBulk d + uptoBulkAll r
def uptoBulkEntries {H : Type} : List (Lit × DataW H) → Nat
  | [] => 0
  | x :: r => uptoBulkEntry x + uptoBulkEntries r
def uptoBulkEntry {H : Type} : Lit × DataW H → Nat
  | (.string bytes, d) => bytes.length + uptoBulk d + 1
  | (_, d) => uptoBulk d + 1
 end
def uptoSmall : (H : Type) → List (DataW H) → Bool := fun _ ds => decide (uptoBulkAll ds ≤ 1048576)
def OpenSpec.upto (s : _root_.Go.ChangeSpec) : _root_.Go.OpenSpec := { _root_.Go.OpenSpec.ofChange s with cond := some uptoSmall }

/-- 'switchyardlaw09.TypingOfs', WHERE WHAT IT READS IS OF BULK AT MOST 1048576: true; the input reads as it did. -/
def typingOfsUptoRow : OpenClaim := { program := "ytchjckdjkecjnaagreatdoor", sum := "614df6dc3edf4636024535d37e2bf6318317bad1f5a7b6611f360aefe23d5c00", func := "switchyard/switchyardlaw09.TypingOfs", spec := "typingOfs", inPlace := ["internal/abi.NoEscape", "internal/bytealg.MakeNoZero"], unfollowed := true, recurses := true, named := ["switchyard/expr.constructs", "internal/strconv.uint64pow10", "math/bits.deBruijn32tab", "math/bits.deBruijn64tab"], loops := true, apart := false, laid := [("math/bits.deBruijn32tab", laid_math_bits_deBruijn32tab), ("math/bits.deBruijn64tab", laid_math_bits_deBruijn64tab), ("internal/strconv.uint64pow10", laid_internal_strconv_uint64pow10), ("switchyard/expr.constructs", laid_switchyard_expr_constructs)], narrowed := true }
def TypingOfsUptoSaid : Prop := typingOfsUptoRow.holds Tryz.pinned (OpenSpec.upto typingOfsSpec)

/-- 'switchyardlaw10.EvalWholes', WHERE WHAT IT READS IS OF BULK AT MOST 1048576: true; the input reads as it did. -/
def evalWholesUptoRow : OpenClaim := { program := "ytchjckdjkecjnaagreatdoor", sum := "614df6dc3edf4636024535d37e2bf6318317bad1f5a7b6611f360aefe23d5c00", func := "switchyard/switchyardlaw10.EvalWholes", spec := "evalWholes", inPlace := ["internal/abi.NoEscape", "internal/bytealg.MakeNoZero"], unfollowed := true, recurses := true, named := ["switchyard/expr.constructs", "internal/strconv.uint64pow10", "math/bits.deBruijn32tab", "math/bits.deBruijn64tab"], apart := false, laid := [("math/bits.deBruijn32tab", laid_math_bits_deBruijn32tab), ("math/bits.deBruijn64tab", laid_math_bits_deBruijn64tab), ("internal/strconv.uint64pow10", laid_internal_strconv_uint64pow10), ("switchyard/expr.constructs", laid_switchyard_expr_constructs)], narrowed := true }
def EvalWholesUptoSaid : Prop := evalWholesUptoRow.holds Tryz.pinned (OpenSpec.upto evalWholesSpec)

/-- 'switchyardlaw10.EvalTyped', WHERE WHAT IT READS IS OF BULK AT MOST 1048576: true; the input reads as it did. -/
def evalTypedUptoRow : OpenClaim := { program := "ytchjckdjkecjnaagreatdoor", sum := "614df6dc3edf4636024535d37e2bf6318317bad1f5a7b6611f360aefe23d5c00", func := "switchyard/switchyardlaw10.EvalTyped", spec := "evalTyped", inPlace := ["internal/abi.NoEscape", "internal/bytealg.MakeNoZero"], unfollowed := true, recurses := true, named := ["switchyard/expr.constructs", "internal/strconv.uint64pow10", "math/bits.deBruijn32tab", "math/bits.deBruijn64tab"], loops := true, apart := false, laid := [("math/bits.deBruijn32tab", laid_math_bits_deBruijn32tab), ("math/bits.deBruijn64tab", laid_math_bits_deBruijn64tab), ("internal/strconv.uint64pow10", laid_internal_strconv_uint64pow10), ("switchyard/expr.constructs", laid_switchyard_expr_constructs)], narrowed := true }
def EvalTypedUptoSaid : Prop := evalTypedUptoRow.holds Tryz.pinned (OpenSpec.upto evalTypedSpec)

/-- 'switchyardlaw10.EvalSelves', WHERE WHAT IT READS IS OF BULK AT MOST 1048576: true; the input reads as it did. -/
def evalSelvesUptoRow : OpenClaim := { program := "ytchjckdjkecjnaagreatdoor", sum := "614df6dc3edf4636024535d37e2bf6318317bad1f5a7b6611f360aefe23d5c00", func := "switchyard/switchyardlaw10.EvalSelves", spec := "evalSelves", inPlace := ["internal/abi.NoEscape", "internal/bytealg.MakeNoZero"], unfollowed := true, recurses := true, named := ["switchyard/expr.constructs", "internal/strconv.uint64pow10", "math/bits.deBruijn32tab", "math/bits.deBruijn64tab"], apart := false, laid := [("math/bits.deBruijn32tab", laid_math_bits_deBruijn32tab), ("math/bits.deBruijn64tab", laid_math_bits_deBruijn64tab), ("internal/strconv.uint64pow10", laid_internal_strconv_uint64pow10), ("switchyard/expr.constructs", laid_switchyard_expr_constructs)], narrowed := true }
def EvalSelvesUptoSaid : Prop := evalSelvesUptoRow.holds Tryz.pinned (OpenSpec.upto evalSelvesSpec)

/-- 'switchyardlaw10.EvalShort', WHERE WHAT IT READS IS OF BULK AT MOST 1048576: true; the input reads as it did. -/
def evalShortUptoRow : OpenClaim := { program := "ytchjckdjkecjnaagreatdoor", sum := "614df6dc3edf4636024535d37e2bf6318317bad1f5a7b6611f360aefe23d5c00", func := "switchyard/switchyardlaw10.EvalShort", spec := "evalShort", inPlace := ["internal/abi.NoEscape", "internal/bytealg.MakeNoZero"], unfollowed := true, recurses := true, named := ["switchyard/expr.constructs", "internal/strconv.uint64pow10", "math/bits.deBruijn32tab", "math/bits.deBruijn64tab"], loops := true, apart := false, laid := [("math/bits.deBruijn32tab", laid_math_bits_deBruijn32tab), ("math/bits.deBruijn64tab", laid_math_bits_deBruijn64tab), ("internal/strconv.uint64pow10", laid_internal_strconv_uint64pow10), ("switchyard/expr.constructs", laid_switchyard_expr_constructs)], narrowed := true }
def EvalShortUptoSaid : Prop := evalShortUptoRow.holds Tryz.pinned (OpenSpec.upto evalShortSpec)

/-- 'switchyardlaw10.EvalOwn', WHERE WHAT IT READS IS OF BULK AT MOST 1048576: true; the input reads as it did. -/
def evalOwnUptoRow : OpenClaim := { program := "ytchjckdjkecjnaagreatdoor", sum := "614df6dc3edf4636024535d37e2bf6318317bad1f5a7b6611f360aefe23d5c00", func := "switchyard/switchyardlaw10.EvalOwn", spec := "evalOwn", inPlace := ["internal/abi.NoEscape", "internal/bytealg.MakeNoZero"], unfollowed := true, recurses := true, named := ["switchyard/expr.constructs", "internal/strconv.uint64pow10", "math/bits.deBruijn32tab", "math/bits.deBruijn64tab"], loops := true, apart := false, laid := [("math/bits.deBruijn32tab", laid_math_bits_deBruijn32tab), ("math/bits.deBruijn64tab", laid_math_bits_deBruijn64tab), ("internal/strconv.uint64pow10", laid_internal_strconv_uint64pow10), ("switchyard/expr.constructs", laid_switchyard_expr_constructs)], narrowed := true }
def EvalOwnUptoSaid : Prop := evalOwnUptoRow.holds Tryz.pinned (OpenSpec.upto evalOwnSpec)

end Rows
end Go.Proofs.YtchjckdjkecjnaaGreatDoor
