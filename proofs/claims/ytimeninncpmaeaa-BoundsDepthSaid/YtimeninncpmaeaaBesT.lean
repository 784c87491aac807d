/- Bounds: the law of the depth. -/
import Derived.Test.YtimeninncpmaeaaBesF
namespace Go.Proofs.Ytimeninncpmaeaa.Abs
open Go
set_option linter.unusedVariables false
theorem depth : Law Try.prog 8 10 [26] := F8_law (fun x1 x2 x3 l4 l5 l6 _ _ h4 _ h5 _ h6 _ => depth_eq h4.1 h6.1)
end Go.Proofs.Ytimeninncpmaeaa.Abs
