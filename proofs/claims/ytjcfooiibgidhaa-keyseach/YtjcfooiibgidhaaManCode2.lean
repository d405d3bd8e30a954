/-
  The code of layer 20 (manifest), as it landed: lay.
-/
import Derived.Test.YtjcfooiibgidhaaManCode
import Derived.Test.YtjcfooiibgidhaaManOwn
namespace Go.Proofs.Ytjcfooiibgidhaa.N
open Go.RowKit
set_option linter.unusedVariables false
set_option maxRecDepth 8192

theorem nums_take (z : List Int) (k : Nat) (h : k < z.length) : nums (z.take (k + 1)) = nums (z.take k) ++ four (z[k]?.getD 0) := by
  rw [take_snocB z k h]
  simp [nums]
theorem four_take (x : Int) (j : Nat) (hj : j < 4) : (four x).take (j + 1) = (four x).take j ++ [x / 256 ^ j % 256] := by
  rcases (show j = 0 ∨ j = 1 ∨ j = 2 ∨ j = 3 by omega) with rfl | rfl | rfl | rfl <;> simp [four]
end Go.Proofs.Ytjcfooiibgidhaa.N
