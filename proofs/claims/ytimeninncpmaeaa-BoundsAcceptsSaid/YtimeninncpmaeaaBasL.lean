/- Bounds: four laws. -/
import Derived.Test.YtimeninncpmaeaaBasE
namespace Go.Proofs.Ytimeninncpmaeaa.Abs
open Go
set_option linter.unusedVariables false
theorem resources : Law Try.prog 4 10 [26] := F4_law (fun x1 x2 x3 l4 l5 l6 _ _ h4 _ h5 _ h6 _ => resources_eq h4.1 h6.1)
theorem lower : Law Try.prog 5 10 [26] := F5_law (fun x1 x2 x3 l4 l5 l6 _ _ h4 _ h5 _ h6 _ => lower_eq h4.1 h6.1)
theorem accepts : Law Try.prog 6 10 [26, 31] := F6_law (fun x1 x2 x3 l4 l5 l6 x7 x8 l9 x10 _ _ h4 _ h5 _ h6 _ _ _ _ _ _ => accepts_eq h4.1 h6.1 x7 x8 l9 x10)
end Go.Proofs.Ytimeninncpmaeaa.Abs
