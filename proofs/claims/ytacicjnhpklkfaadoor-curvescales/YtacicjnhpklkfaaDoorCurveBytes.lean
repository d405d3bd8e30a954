/-
  Bytes of numbers in variables: one is read, one is written.
-/
import Derived.Test.YtacicjnhpklkfaaDoorCurveBase
import Derived.Test.YtacicjnhpklkfaaDoorCurvePlain5
namespace Go.Proofs.YtacicjnhpklkfaaDoor.N
open Go.RowKit
set_option linter.unusedVariables false
set_option maxRecDepth 8192

theorem pA_byte (x y j : Nat) (hj : j < 32) : (pA x y)[j]? = some (.int .u8 ((x / 256 ^ j % 256 : Nat) : Int)) := by rw [pA_get, if_pos hj, bA_get x j hj]
theorem digL_set31 {v x : Nat} (hv : v < 2 ^ 256) (hx : x < 256) : (digL v 32).set 31 x = digL (v % 256 ^ 31 + x * 256 ^ 31) 32 := by
  have h1 := vL_set (l := digL v 32) (j := 31) (x := x) (by rw [digL_length]; decide)
  rw [vL_digL_lt (by rw [b256]; exact hv), dg_digL (by decide)] at h1
  have h2 : v / 256 ^ 31 % 256 = v / 256 ^ 31 := Nat.mod_eq_of_lt (Nat.div_lt_of_lt_mul (by rw [show 256 ^ 31 * 256 = 2 ^ 256 by decide]; exact hv))
  rw [h2] at h1
  have h3 := Nat.div_add_mod v (256 ^ 31)
  have h6 : v % 256 ^ 31 < 256 ^ 31 := Nat.mod_lt _ (Nat.pow_pos (by decide))
  have h4 : vL ((digL v 32).set 31 x) = v % 256 ^ 31 + x * 256 ^ 31 := by
    rw [Nat.mul_comm] at h3
    generalize 256 ^ 31 = A at *
    omega
  have h5 : v % 256 ^ 31 + x * 256 ^ 31 < 256 ^ 32 := by
    rw [show (256 : Nat) ^ 32 = 256 * 256 ^ 31 by decide]
    generalize 256 ^ 31 = A at *
    have : x * A ≤ 255 * A := Nat.mul_le_mul_right _ (by omega)
    omega
  refine ((digL_dig v 32).set 31 hx).ext (digL_dig _ _) (by rw [List.length_set, digL_length, digL_length]) ?_
  rw [h4, vL_digL_lt h5]
theorem b255 : (256 : Nat) ^ 31 * 128 = 2 ^ 255 := by decide
/-- The last byte, more by 128, without its highest bit. -/
theorem set_high {y : Nat} (hy : y < 2 ^ 255) : y / 256 ^ 31 % 256 < 128 ∧ (digL y 32).set 31 (y / 256 ^ 31 % 256 + 128) = digL (y + 2 ^ 255) 32 := by
  have h0 : y < 2 ^ 256 := Nat.lt_trans hy (by rw [two_255]; have := Nat.two_pow_pos 255; omega)
  have h1 : y / 256 ^ 31 < 128 := Nat.div_lt_of_lt_mul (by rw [b255]; exact hy)
  have h2 : y / 256 ^ 31 % 256 = y / 256 ^ 31 := Nat.mod_eq_of_lt (by omega)
  refine ⟨by omega, ?_⟩
  rw [h2, digL_set31 h0 (by omega)]
  congr 1
  have h3 := Nat.div_add_mod y (256 ^ 31)
  rw [← b255, Nat.add_mul]
  rw [Nat.mul_comm] at h3
  generalize 256 ^ 31 = A at *
  generalize y / A = q at *
  rw [Nat.mul_comm A 128]
  generalize q * A = m at *
  generalize 128 * A = n at *
  omega
theorem set_low {b : Nat} (hb : b < 2 ^ 256) : (digL b 32).set 31 (b / 256 ^ 31 % 256 % 128) = digL (b % 2 ^ 255) 32 := by
  have h1 : b / 256 ^ 31 < 256 := Nat.div_lt_of_lt_mul (by rw [show 256 ^ 31 * 256 = 2 ^ 256 by decide]; exact hb)
  have h2 : b / 256 ^ 31 % 256 = b / 256 ^ 31 := Nat.mod_eq_of_lt h1
  rw [h2, digL_set31 hb (by omega)]
  congr 1
  rw [← b255, Nat.mod_mul, Nat.mul_comm (256 ^ 31)]
theorem turn_gen (A b : Nat) (hA : 0 < A) : (b + A * 128) % (A * 256) = b % A + (b / A + 128) % 256 * A := by
  have h3 := Nat.div_add_mod b A
  have e : b + A * 128 = b % A + A * (b / A + 128) := by rw [Nat.mul_add]; omega
  have h6 : b % A < A := Nat.mod_lt _ hA
  rw [Nat.mod_mul, e, Nat.add_mul_mod_self_left, Nat.mod_eq_of_lt h6, Nat.add_mul_div_left _ _ hA, Nat.div_eq_of_lt h6, Nat.zero_add, Nat.mul_comm A]
theorem set_turn {b : Nat} (hb : b < 2 ^ 256) : (digL b 32).set 31 ((b / 256 ^ 31 % 256 + 128) % 256) = digL ((b + 2 ^ 255) % 2 ^ 256) 32 := by
  have h1 : b / 256 ^ 31 < 256 := Nat.div_lt_of_lt_mul (by rw [show 256 ^ 31 * 256 = 2 ^ 256 by decide]; exact hb)
  have h2 : b / 256 ^ 31 % 256 = b / 256 ^ 31 := Nat.mod_eq_of_lt h1
  have h3 := turn_gen (256 ^ 31) b (Nat.pow_pos (by decide))
  rw [b255, show 256 ^ 31 * 256 = 2 ^ 256 by decide] at h3
  rw [h2, digL_set31 hb (Nat.mod_lt _ (by decide)), h3]
theorem top_bit {b : Nat} (hb : b < 2 ^ 256) : b / 256 ^ 31 % 256 / 128 = b / 2 ^ 255 := by
  have h1 : b / 256 ^ 31 < 256 := Nat.div_lt_of_lt_mul (by rw [show 256 ^ 31 * 256 = 2 ^ 256 by decide]; exact hb)
  rw [Nat.mod_eq_of_lt h1, Nat.div_div_eq_div_mul, b255]
section
variable {P : Program} {ops : Array Oper} {rest : List Oper} {o : Oper} {a : Act} {w w0 : World} {Q : Exit → Act → World → Prop} {K : Act → World → Prop} {l : List AV}
theorem cell_byte (V : Vars w0 w l) (i : Nat) {g : Nat} {T : TypeId} {X : Array Value} (hi : l[i]? = some ⟨g, T, X⟩) (off : Nat) {z : Int} (hz : X[off]? = some (.int .u8 z)) : w.cell? ⟨g, off, none⟩ = some (.int .u8 z) := by
  rw [cell_of_row w g off X T (0, 0) (V.at i hi), hz]
/-- A byte of a number in a variable is written: the world behind it. -/
theorem Vars.setB (V : Vars w0 w l) (i : Nat) {g : Nat} {T : TypeId} {v : Nat} (hi : l[i]? = some ⟨g, T, bA v⟩) (j : Nat) (x v' : Nat) (hv : (digL v 32).set j x = digL v' 32) : Vars w0 (w.setCell ⟨g, j, none⟩ (.int .u8 (x : Int))) (l.set i ⟨g, T, bA v'⟩) := by
  have hi2 : l[i]? = some ⟨g, T, arr .u8 (digL v 32)⟩ := by rw [hi, bA_def]
  have V2 := V.setc i hi2 j x
  rw [hv, ← bA_def] at V2
  exact V2
end
end Go.Proofs.YtacicjnhpklkfaaDoor.N
