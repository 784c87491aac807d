/- Bounds: the law of the recurrences. -/
import Derived.Test.YtimeninncpmaeaaBbsB
namespace Go.Proofs.Ytimeninncpmaeaa.Abs
open Go
set_option linter.unusedVariables false
theorem recurrence : Law Try.prog 3 10 [26] := F3_law (fun x1 x2 x3 l4 l5 l6 _ _ h4 _ h5 _ h6 _ => recurrence_eq x1 x2 x3 l4 l5 l6 h4.1 h6.1)
end Go.Proofs.Ytimeninncpmaeaa.Abs
