/- EvShW -/
import Derived.Test.YtabbdkdpmpjchaaGreatDoorZTzSb
import Derived.Test.YtabbdkdpmpjchaaGreatDoorZEvSh3
import Derived.Test.YtabbdkdpmpjchaaGreatDoorZEvSh4
import Derived.Test.YtabbdkdpmpjchaaGreatDoorZEvSh5
namespace Go.Proofs.YtabbdkdpmpjchaaGreatDoor.Ev
open Go.RowKit
open Ex Lx Va Ty
set_option linter.unusedVariables false
set_option linter.unusedSimpArgs false
theorem EvalShort_walk (a : T) (pa : Option Addr) (ca : Nat) (b : T) (pb : Option Addr) (cb : Nat) (v : En) (r : Rows) (w : World) (hfa : FAt w (fun _ => True) a.args pa) (hfita : a.row.fits) (hnumsa : a.row.nums) (hfb : FAt w (fun _ => True) b.args pb) (hfitb : b.row.fits) (hnumsb : b.row.nums) (hen : EnAt w r.pa r.pv r.pn r.pf v) (hB : EnBig v) (htab : Va.Tab w) (hC : ConsAt w) :
    Calls Tryz.prog 9 #[.agg #[.int .i64 a.op, .int .i64 a.num, .string (S a.text), .slice pa a.args.len ca], .agg #[.int .i64 b.op, .int .i64 b.num, .string (S b.text), .slice pb b.args.len cb], .agg (envC v r)] w fun e w' => e = .returned (.bool true) ∧ Below w.heap.size w w' := by
  cases h1 : smallV v with
  | false => exact short_1 a pa ca b pb cb v r w hfa hfita hnumsa hfb hfitb hnumsb hen hB htab hC h1
  | true =>
    by_cases h2 : (printM ⟨40, 0, [], Ex.two a b⟩).2 = 0 ∧ (printM ⟨41, 0, [], Ex.two a b⟩).2 = 0
    · by_cases hq : (evM v a).2 = 0 ∧ (evM v a).1.kind = 2
      · by_cases hn : (evM v a).1.num = 0
        · exact short_4 a pa ca b pb cb v r w hfa hfita hnumsa hfb hfitb hnumsb hen hB htab hC h1 h2 ⟨hq.1, hq.2, hn⟩
        · exact short_5 a pa ca b pb cb v r w hfa hfita hnumsa hfb hfitb hnumsb hen hB htab hC h1 h2 ⟨hq.1, hq.2, hn⟩
      · exact short_3 a pa ca b pb cb v r w hfa hfita hnumsa hfb hfitb hnumsb hen hB htab hC h1 h2 hq
    · exact short_2 a pa ca b pb cb v r w hfa hfita hnumsa hfb hfitb hnumsb hen hB htab hC h1 h2
end Go.Proofs.YtabbdkdpmpjchaaGreatDoor.Ev
