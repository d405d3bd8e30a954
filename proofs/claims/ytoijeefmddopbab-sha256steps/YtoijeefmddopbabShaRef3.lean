/-
  Layer 13's reference: Greater, above, frac, Primes, Start, Rounds.
-/
import Derived.Test.YtoijeefmddopbabShaRef2
namespace Go.Proofs.Ytoijeefmddopbab
open Go.RowKit
set_option linter.unusedVariables false
set_option maxRecDepth 8192

end Go.Proofs.Ytoijeefmddopbab
