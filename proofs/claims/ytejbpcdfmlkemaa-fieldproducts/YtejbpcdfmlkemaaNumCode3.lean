/-
  The code of layer 15 (nums), as it landed: change, word.
-/
import Derived.Test.YtejbpcdfmlkemaaNumCode
namespace Go.Proofs.Ytejbpcdfmlkemaa.N
open Go.RowKit
set_option linter.unusedVariables false
set_option maxRecDepth 8192

end Go.Proofs.Ytejbpcdfmlkemaa.N
