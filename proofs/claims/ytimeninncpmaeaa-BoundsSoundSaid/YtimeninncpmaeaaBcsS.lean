/- Bounds: the law of the schedules. -/
import Derived.Test.YtimeninncpmaeaaBcsG
namespace Go.Proofs.Ytimeninncpmaeaa.Abs
open Go
set_option linter.unusedVariables false
theorem sound : Law Try.prog 7 10 [26, 41, 31] := F7_law (fun x1 x2 x3 l4 l5 l6 x7 x8 l9 l10 l11 x12 x13 l14 x15 _ _ h4 _ h5 _ h6 _ _ _ _ _ _ _ _ _ _ _ _ _ _ => sound_eq h4.1 h6.1 x12 x13 l14 x15)
end Go.Proofs.Ytimeninncpmaeaa.Abs
