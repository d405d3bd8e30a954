/-
  The code of layer 20 (manifest), as it landed: within, allWithin, inOrder, mayBe.
-/
import Derived.Test.YtjcfooiibgidhaaManBase
namespace Go.Proofs.Ytjcfooiibgidhaa.N
open Go.RowKit
set_option linter.unusedVariables false
set_option maxRecDepth 8192

/-- All of a row's numbers may be. -/
def allB (z : List Int) : Bool := (List.range z.length).all fun i => in31 (z[i]?.getD 0)
theorem allB_four (a b c d : Int) : allB [a, b, c, d] = (in31 a && (in31 b && (in31 c && in31 d))) := by
  show (in31 a && (in31 b && (in31 c && (in31 d && true)))) = _
  rw [Bool.and_true]
theorem allB_no {z : List Int} {i : Nat} (hi : i < z.length) (h : in31 (z[i]?.getD 0) = false) : allB z = false := by
  cases hz : allB z
  · rfl
  · unfold allB at hz
    rw [List.all_eq_true.1 hz i (List.mem_range.2 hi)] at h
    cases h
theorem allB_yes {z : List Int} (h : ∀ i, i < z.length → in31 (z[i]?.getD 0) = true) : allB z = true := by
  unfold allB
  rw [List.all_eq_true]
  exact fun i hi => h i (List.mem_range.1 hi)
end Go.Proofs.Ytjcfooiibgidhaa.N
