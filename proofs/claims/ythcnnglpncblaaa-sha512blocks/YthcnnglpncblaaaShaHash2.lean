/-
  The code of layer 13 (sha256): what is done once (sync.Once, its lock), what is counted (sync/atomic), of a Hash.
-/
import Derived.Test.YthcnnglpncblaaaShaHash
namespace Go.Proofs.Ythcnnglpncblaaa
open Go.RowKit
set_option linter.unusedVariables false
set_option maxRecDepth 8192

end Go.Proofs.Ythcnnglpncblaaa
