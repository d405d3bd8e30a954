/-
  The code of layer 15 (nums), as it landed: guess, lessen.
-/
import Derived.Test.YtacicjnhpklkfaaDoorNumCode2
import Derived.Test.YtacicjnhpklkfaaDoorNumCode3
namespace Go.Proofs.YtacicjnhpklkfaaDoor.N
open Go.RowKit
set_option linter.unusedVariables false
set_option maxRecDepth 8192

theorem top_ge {z : List Nat} (nz : Nrm z) {lm : Nat} (hl : z.length = lm) (h7 : 7 < lm) : 281474976710656 ≤ vL z / 256 ^ (lm - 7) := by
  have h1 := nz.ge (lm - 1) (by omega)
  rw [Nat.le_div_iff_mul_le (pow_pos256 _)]
  have e : 281474976710656 * 256 ^ (lm - 7) = 256 ^ (lm - 1) := by
    rw [show (281474976710656 : Nat) = 256 ^ 6 from rfl, ← Nat.pow_add]
    congr 1
    omega
  rw [e]
  exact h1
theorem lessen_plain {R M D q : Nat} (hD : 0 < D) (h1 : q * M ≤ R / D) (h2 : R / D < (q + 2) * M) : q * (M * D) ≤ R ∧ R < (q + 2) * (M * D) := by
  have e1 := Nat.mul_le_mul_right D h1
  have e2 := Nat.div_mul_le_self R D
  have e3 := Nat.mul_le_mul_right D (show R / D + 1 ≤ (q + 2) * M from h2)
  have e4 := Nat.lt_mul_div_succ R hD
  rw [Nat.mul_comm D] at e4
  rw [Nat.mul_assoc] at e1 e3
  omega
theorem cmp_ge {a b : Nat} : 0 ≤ cmpN a b ↔ b ≤ a := by
  unfold cmpN
  split
  · omega
  · split <;> omega
end Go.Proofs.YtacicjnhpklkfaaDoor.N
