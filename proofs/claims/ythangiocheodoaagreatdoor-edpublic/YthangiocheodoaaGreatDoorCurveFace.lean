/-
 Layer 17's laws: what they share: point, add, scaled, awake.
-/
import Derived.Test.YthangiocheodoaaGreatDoorCurveCode6
import Derived.Test.YthangiocheodoaaGreatDoorCurveCode7
namespace Go.Proofs.YthangiocheodoaaGreatDoor.N
open Go.RowKit
set_option linter.unusedVariables false
set_option maxRecDepth 8192

end Go.Proofs.YthangiocheodoaaGreatDoor.N
