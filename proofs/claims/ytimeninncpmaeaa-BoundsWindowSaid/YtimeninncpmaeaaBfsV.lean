/- Bounds: the law of the windows. -/
import Derived.Test.YtimeninncpmaeaaBfsI
namespace Go.Proofs.Ytimeninncpmaeaa.Abs
open Go
set_option linter.unusedVariables false
theorem window : Law Try.prog 9 10 [26, 3, 3] := F9_law (fun x1 x2 x3 l4 l5 l6 x7 x8 _ _ h4 _ h5 _ h6 _ _ _ => window_eq h4.1 h6.1)
end Go.Proofs.Ytimeninncpmaeaa.Abs
