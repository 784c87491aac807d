/- Bounds: the law of the windows and the schedules. -/
import Derived.Test.YtimeninncpmaeaaBdsH
namespace Go.Proofs.Ytimeninncpmaeaa.Abs
open Go
set_option linter.unusedVariables false
theorem within : Law Try.prog 10 10 [26, 41] := F10_law (fun x1 x2 x3 l4 l5 l6 x7 x8 l9 l10 l11 _ _ h4 _ h5 _ h6 _ _ _ _ _ _ _ _ _ => within_eq h4.1 h6.1)
end Go.Proofs.Ytimeninncpmaeaa.Abs
