/- The reference's Tighten. -/
import Derived.Test.YthkdojgagmaecabIvTr1
import Derived.Test.YthkdojgagmaecabIvTr2
import Derived.Test.YthkdojgagmaecabIvTr3
import Derived.Test.YthkdojgagmaecabIvTr4
import Derived.Deep.QuietTactic
import Derived.BigQuiet
import Derived.Laws.Cover1
set_option linter.unusedVariables false
set_option linter.unusedSimpArgs false
namespace Go.Proofs.Ythkdojgagmaecab
open Go.RowKit

theorem tight_ref (a r0 r1 r2 r3 T : Int) (h1 : 1 ≤ a) (h2 : a ≤ 64) (hT : T = smax a) (hM : ((maskN a : Nat) : Int) = 2 * T + 1) (hv : rOk T r0 r1 r2 r3)
    (CV : ∀ w, Calls Try.prog 32 #[.int .i64 a, .agg #[.int .u64 r0, .int .u64 r1, .int .i64 r2, .int .i64 r3]] w fun e w' => e = .returned (.bool true) ∧ Below w.heap.size w w') (w : World) :
    Calls Try.prog 40 #[.int .i64 a, .agg #[.int .u64 r0, .int .u64 r1, .int .i64 r2, .int .i64 r3]] w fun e w' => e = .returned (tiV T r0 r1 r2 r3) ∧ Below w.heap.size w w' := by
  by_cases p1 : r1 ≤ T
  · exact tight_ref1 a r0 r1 r2 r3 T h1 h2 hT hM hv p1 CV w
  · by_cases p2 : 0 ≤ r2
    · exact tight_ref2 a r0 r1 r2 r3 T h1 h2 hT hM hv p1 p2 CV w
    · by_cases p3 : T < r0
      · exact tight_ref3 a r0 r1 r2 r3 T h1 h2 hT hM hv p1 p2 p3 CV w
      · exact tight_ref4 a r0 r1 r2 r3 T h1 h2 hT hM hv p1 p2 p3 CV w
end Go.Proofs.Ythkdojgagmaecab
