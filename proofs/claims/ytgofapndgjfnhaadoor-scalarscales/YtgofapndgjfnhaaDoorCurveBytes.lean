/-
  Bytes of numbers in variables: one is read, one is written.
-/
import Derived.Test.YtgofapndgjfnhaaDoorCurveBase
import Derived.Test.YtgofapndgjfnhaaDoorCurvePlain5
namespace Go.Proofs.YtgofapndgjfnhaaDoor.N
open Go.RowKit
set_option linter.unusedVariables false
set_option maxRecDepth 8192

theorem pA_byte (x y j : Nat) (hj : j < 32) : (pA x y)[j]? = some (.int .u8 ((x / 256 ^ j % 256 : Nat) : Int)) := by rw [pA_get, if_pos hj, bA_get x j hj]
theorem b255 : (256 : Nat) ^ 31 * 128 = 2 ^ 255 := by decide
/-- The last byte, more by 128, without its highest bit. -/
theorem set_high {y : Nat} (hy : y < 2 ^ 255) : y / 256 ^ 31 % 256 < 128 ∧ (digL y 32).set 31 (y / 256 ^ 31 % 256 + 128) = digL (y + 2 ^ 255) 32 := by
  have h0 : y < 2 ^ 256 := Nat.lt_trans hy (by rw [two_255]; have := Nat.two_pow_pos 255; omega)
  have h1 : y / 256 ^ 31 < 128 := Nat.div_lt_of_lt_mul (by rw [b255]; exact hy)
  have h2 : y / 256 ^ 31 % 256 = y / 256 ^ 31 := Nat.mod_eq_of_lt (by omega)
  refine ⟨by omega, ?_⟩
  rw [h2, digL_set31 h0 (by omega)]
  congr 1
  have h3 := Nat.div_add_mod y (256 ^ 31)
  rw [← b255, Nat.add_mul]
  rw [Nat.mul_comm] at h3
  generalize 256 ^ 31 = A at *
  generalize y / A = q at *
  rw [Nat.mul_comm A 128]
  generalize q * A = m at *
  generalize 128 * A = n at *
  omega
theorem set_low {b : Nat} (hb : b < 2 ^ 256) : (digL b 32).set 31 (b / 256 ^ 31 % 256 % 128) = digL (b % 2 ^ 255) 32 := by
  have h1 : b / 256 ^ 31 < 256 := Nat.div_lt_of_lt_mul (by rw [show 256 ^ 31 * 256 = 2 ^ 256 by decide]; exact hb)
  have h2 : b / 256 ^ 31 % 256 = b / 256 ^ 31 := Nat.mod_eq_of_lt h1
  rw [h2, digL_set31 hb (by omega)]
  congr 1
  rw [← b255, Nat.mod_mul, Nat.mul_comm (256 ^ 31)]
theorem turn_gen (A b : Nat) (hA : 0 < A) : (b + A * 128) % (A * 256) = b % A + (b / A + 128) % 256 * A := by
  have h3 := Nat.div_add_mod b A
  have e : b + A * 128 = b % A + A * (b / A + 128) := by rw [Nat.mul_add]; omega
  have h6 : b % A < A := Nat.mod_lt _ hA
  rw [Nat.mod_mul, e, Nat.add_mul_mod_self_left, Nat.mod_eq_of_lt h6, Nat.add_mul_div_left _ _ hA, Nat.div_eq_of_lt h6, Nat.zero_add, Nat.mul_comm A]
theorem set_turn {b : Nat} (hb : b < 2 ^ 256) : (digL b 32).set 31 ((b / 256 ^ 31 % 256 + 128) % 256) = digL ((b + 2 ^ 255) % 2 ^ 256) 32 := by
  have h1 : b / 256 ^ 31 < 256 := Nat.div_lt_of_lt_mul (by rw [show 256 ^ 31 * 256 = 2 ^ 256 by decide]; exact hb)
  have h2 : b / 256 ^ 31 % 256 = b / 256 ^ 31 := Nat.mod_eq_of_lt h1
  have h3 := turn_gen (256 ^ 31) b (Nat.pow_pos (by decide))
  rw [b255, show 256 ^ 31 * 256 = 2 ^ 256 by decide] at h3
  rw [h2, digL_set31 hb (Nat.mod_lt _ (by decide)), h3]
theorem top_bit {b : Nat} (hb : b < 2 ^ 256) : b / 256 ^ 31 % 256 / 128 = b / 2 ^ 255 := by
  have h1 : b / 256 ^ 31 < 256 := Nat.div_lt_of_lt_mul (by rw [show 256 ^ 31 * 256 = 2 ^ 256 by decide]; exact hb)
  rw [Nat.mod_eq_of_lt h1, Nat.div_div_eq_div_mul, b255]
end Go.Proofs.YtgofapndgjfnhaaDoor.N
