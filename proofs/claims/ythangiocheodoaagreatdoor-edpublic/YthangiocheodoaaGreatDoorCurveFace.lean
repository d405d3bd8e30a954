/-
  Layer 17's laws: what they share: point, add, scaled, awake.
-/
import Derived.Test.YthangiocheodoaaGreatDoorCurveCode6
import Derived.Test.YthangiocheodoaaGreatDoorCurveCode7
namespace Go.Proofs.YthangiocheodoaaGreatDoor.N
open Go.RowKit
set_option linter.unusedVariables false
set_option maxRecDepth 8192

theorem row_nil17 (w : World) : Row .u8 w none 0 0 (nI []) := ⟨rfl, Nat.le_refl _, Nat.zero_le _, fun _ => rfl, fun h => absurd h (Nat.lt_irrefl _)⟩
theorem dig_nil17 : Dig [] := fun x hx => absurd hx List.not_mem_nil
theorem ptrue (x y : Nat) : (decide (x = x) && decide (y = y)) = true := by simp
theorem ptrue' (x y : Nat) : (decide (x = x) && decide (y = y)) = !false := by simp
theorem pt256 (p : Pt) : p.x.val < 2 ^ 256 ∧ p.y.val < 2 ^ 256 := ⟨elt256 p.x.isLt, elt256 p.y.isLt⟩
theorem small256 {n : Nat} (h : n < 256) : n < 2 ^ 256 := Nat.lt_of_lt_of_le h (by decide)
theorem pz256 : 0 < 2 ^ 256 ∧ 1 < 2 ^ 256 := ⟨small256 (by decide), small256 (by decide)⟩
theorem po256 : 0 < 2 ^ 256 ∧ 0 < 2 ^ 256 := ⟨small256 (by decide), small256 (by decide)⟩
theorem not_on11 : ¬ OnN 1 1 := by
  rintro ⟨⟨x, y⟩, hp, h1, h2⟩
  have e1 : x = ⟨1, by decide⟩ := Fin.ext h1.symm
  have e2 : y = ⟨1, by decide⟩ := Fin.ext h2.symm
  subst e1 e2
  revert hp
  unfold OnC
  decide +kernel
theorem pack_base : packN pbase = baseY := by
  show baseY + 2 ^ 255 * (baseX % 2) = baseY
  rw [baseX_even, Nat.mul_zero, Nat.add_zero]
theorem base_b0 : (bA (packN pbase))[0]? = some (.int .u8 88) := by
  rw [pack_base, bA_get _ 0 (by decide), show baseY / 256 ^ 0 % 256 = 88 from by decide]; rfl
theorem base_b31 : (bA (packN pbase))[31]? = some (.int .u8 102) := by
  rw [pack_base, bA_get _ 31 (by decide), show baseY / 256 ^ 31 % 256 = 102 from by decide]; rfl
end Go.Proofs.YthangiocheodoaaGreatDoor.N
