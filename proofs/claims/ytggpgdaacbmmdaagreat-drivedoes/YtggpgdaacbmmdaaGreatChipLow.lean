/-
  What layer 7 wants of the layers below: bch.Bits, ecc's geometry (Check, Raw), the document's May, Room, Whole and Raw. (Written by tools/gen/chip_low.py out of the templates of layers 3, 5 and 6.)
-/
import Derived.Test.YtggpgdaacbmmdaaGreatEccRef
import Derived.Test.YtggpgdaacbmmdaaGreatPackI
import Derived.Test.YtggpgdaacbmmdaaGreatPackA
import Derived.Test.YtggpgdaacbmmdaaGreatMapIs
import Derived.Deep.CutRange
import Derived.WalkMore
namespace Go.Proofs.YtggpgdaacbmmdaaGreat
open Go.RowKit
set_option linter.unusedVariables false
set_option maxRecDepth 8192

end Go.Proofs.YtggpgdaacbmmdaaGreat
