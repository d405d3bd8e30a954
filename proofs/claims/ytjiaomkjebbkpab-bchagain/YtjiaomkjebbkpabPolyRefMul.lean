/-
  Layer 3's reference, Mul: the product's normal list; nothing old turns.
-/
import Derived.Test.YtjiaomkjebbkpabPolyRef
namespace Go.Proofs.Ytjiaomkjebbkpab
open Go.RowKit
set_option linter.unusedVariables false

end Go.Proofs.Ytjiaomkjebbkpab
