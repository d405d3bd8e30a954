/-
  Layer 3's reference, Mul: the product's normal list; nothing old turns.
-/
import Derived.Test.YtichbednhdofoaaPolyRef
namespace Go.Proofs.Ytichbednhdofoaa
open Go.RowKit
set_option linter.unusedVariables false

end Go.Proofs.Ytichbednhdofoaa
