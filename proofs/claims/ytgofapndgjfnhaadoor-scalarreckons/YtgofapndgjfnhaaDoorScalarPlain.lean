/-
  Layer 18, in plain words: the order; a byte of 32 that is set; a clamped number.
-/
import Derived.Test.YtgofapndgjfnhaaDoorNumPlain
namespace Go.Proofs.YtgofapndgjfnhaaDoor.N
set_option linter.unusedVariables false
set_option maxRecDepth 8192

/-- The order of the base. -/
def oL : Nat := 7237005577332262213973186563042994240857116359379907606001950938285454250989
theorem oL_is : oL = 2 ^ 252 + 27742317777372353535851937790883648493 := by decide
theorem oL_pos : 0 < oL := by decide
theorem oL_lt : oL < 2 ^ 253 := by decide
theorem oL_lt256 : oL < 2 ^ 256 := Nat.lt_trans oL_lt (by decide)
theorem mod_oL (v : Nat) : v % oL < oL := Nat.mod_lt _ oL_pos
theorem mod_oL256 (v : Nat) : v % oL < 2 ^ 256 := Nat.lt_trans (mod_oL v) oL_lt256
/-- The number of 32 bytes of which one is set. -/
def setN (v j x : Nat) : Nat := vL ((digL v 32).set j x)
theorem set_num (v j : Nat) {x : Nat} (hx : x < 256) : (digL v 32).set j x = digL (setN v j x) 32 := by
  have h := digL_of ((digL_dig v 32).set j hx)
  rwa [List.length_set, digL_length] at h
theorem set_lt (v j : Nat) {x : Nat} (hx : x < 256) : setN v j x < 2 ^ 256 := by
  have h := ((digL_dig v 32).set j hx).vL_lt
  rw [List.length_set, digL_length] at h
  exact Nat.lt_of_lt_of_le h (by decide)
theorem set_byte (v : Nat) {j x : Nat} (i : Nat) (hi : i < 32) (hj : j < 32) (hx : x < 256) : setN v j x / 256 ^ i % 256 = if i = j then x else v / 256 ^ i % 256 := by
  rw [← dg_digL (x := setN v j x) hi, ← set_num v j hx, dg_set (by rw [digL_length]; exact hj), dg_digL hi]
theorem set_again (v j : Nat) {x y : Nat} (hx : x < 256) (hy : y < 256) : setN (setN v j x) j y = setN v j y := by
  unfold setN
  rw [show vL ((digL v 32).set j x) = setN v j x from rfl, ← set_num v j hx, List.set_set]
theorem set_same {v : Nat} (hv : v < 2 ^ 256) {j : Nat} (hj : j < 32) : setN v j (v / 256 ^ j % 256) = v := by
  have h1 : v < 256 ^ 32 := Nat.lt_of_lt_of_le hv (by decide)
  unfold setN
  rw [← dg_digL (x := v) hj]
  have e : (digL v 32).set j (dg (digL v 32) j) = digL v 32 := by
    apply list_dg (by rw [List.length_set])
    intro i
    rw [dg_set (by rw [digL_length]; exact hj)]
    split
    · subst i; rfl
    · rfl
  rw [e, vL_digL_lt h1]
/-- The lowest three bits and the highest are 0, the one below it is 1. -/
def lowB (x : Nat) : Nat := x - x % 8
def topB (x : Nat) : Nat := x % 64 + 64
theorem lowB_lt {x : Nat} (h : x < 256) : lowB x < 256 := by unfold lowB; omega
theorem topB_lt (x : Nat) : topB x < 256 := by unfold topB; omega
theorem topB_in (x : Nat) : 64 ≤ topB x ∧ topB x < 128 := by unfold topB; omega
theorem lowB_mod (x : Nat) : lowB x % 8 = 0 := by unfold lowB; omega
theorem lowB_low (x : Nat) : lowB (lowB x) = lowB x := by unfold lowB; omega
theorem topB_top (x : Nat) : topB (topB x) = topB x := by unfold topB; omega
def clampN (v : Nat) : Nat := setN (setN v 0 (lowB (v / 256 ^ 0 % 256))) 31 (topB (v / 256 ^ 31 % 256))
theorem mod256 (n : Nat) : n % 256 < 256 := Nat.mod_lt _ (by decide)
theorem clamp_lt (v : Nat) : clampN v < 2 ^ 256 := set_lt _ _ (topB_lt _)
theorem clamp_b0 (v : Nat) : clampN v / 256 ^ 0 % 256 = lowB (v / 256 ^ 0 % 256) := by
  unfold clampN
  rw [set_byte _ 0 (by decide) (by decide) (topB_lt _), if_neg (by decide), set_byte _ 0 (by decide) (by decide) (lowB_lt (mod256 _)), if_pos rfl]
theorem clamp_b31 (v : Nat) : clampN v / 256 ^ 31 % 256 = topB (v / 256 ^ 31 % 256) := by
  unfold clampN
  rw [set_byte _ 31 (by decide) (by decide) (topB_lt _), if_pos rfl]
theorem clamp_twice (v : Nat) : clampN (clampN v) = clampN v := by
  have h1 : clampN (clampN v) = setN (setN (clampN v) 0 (lowB (clampN v / 256 ^ 0 % 256))) 31 (topB (clampN v / 256 ^ 31 % 256)) := rfl
  rw [clamp_b0, lowB_low, ← clamp_b0, set_same (clamp_lt v) (by decide), clamp_b31, topB_top, ← clamp_b31, set_same (clamp_lt v) (by decide)] at h1
  exact h1
/-- Sums of products, by what is left. -/
theorem mulAdd_left (a b c : Nat) : ((a % oL) * (b % oL) + c % oL) % oL = (a * b + c) % oL := by
  rw [Nat.add_mod, ← Nat.mul_mod, Nat.mod_mod, ← Nat.add_mod]
theorem mulAdd_l (a b c : Nat) : ((a % oL) * b + c) % oL = (a * b + c) % oL := by
  rw [← mulAdd_left (a % oL), Nat.mod_mod, mulAdd_left]
theorem mulAdd_m (a b c : Nat) : (a * (b % oL) + c) % oL = (a * b + c) % oL := by
  rw [← mulAdd_left _ (b % oL), Nat.mod_mod, mulAdd_left]
theorem mulAdd_r (a b c : Nat) : (a * b + c % oL) % oL = (a * b + c) % oL := by
  rw [← mulAdd_left _ _ (c % oL), Nat.mod_mod, mulAdd_left]
end Go.Proofs.YtgofapndgjfnhaaDoor.N
