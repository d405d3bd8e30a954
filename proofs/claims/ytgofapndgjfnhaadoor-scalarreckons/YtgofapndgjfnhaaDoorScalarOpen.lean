/-
  Layer 18: the order in its variable as the row lists it.
-/
import Derived.Test.YtgofapndgjfnhaaDoorLaidOpen
import Derived.Test.YtgofapndgjfnhaaDoorScalarCode
namespace Go.Proofs.YtgofapndgjfnhaaDoor.N
open Go.RowKit Go.Maps Go.ChangeShapes
set_option linter.unusedVariables false
set_option maxRecDepth 8192

/-- The listed variable holds the order. -/
theorem laid_order {rest : List (String × DataW Unit)} {ps : List MemPlace} {W : World} (h : DataW.LaidVars Tryd.prog W (("casemate/scalar.order", Rows.laid_casemate_scalar_order) :: rest) ps) : OAt W ∧ ∃ q, DataW.LaidVars Tryd.prog W rest q :=
  laid_b32 (g := 0) (v := oL) (by kernel_rfl) (by kernel_rfl) oL_lt256 (by
    have h : digL oL 32 = [237, 211, 245, 92, 26, 99, 18, 88, 214, 156, 247, 162, 222, 249, 222, 20, 0, 0, 0, 0, 0, 0, 0, 0, 0, 0, 0, 0, 0, 0, 0, 16] := by decide +kernel
    unfold datB
    rw [h]
    rfl) h
end Go.Proofs.YtgofapndgjfnhaaDoor.N
