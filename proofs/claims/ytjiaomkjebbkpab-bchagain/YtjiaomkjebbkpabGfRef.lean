/-
  Layer 2's reference (casemateref02): Is, Sum, Mul, Pow, Inv, Exp return what the plain functions of the field give; nothing turns.
-/
import Derived.Test.YtjiaomkjebbkpabGfMore
import Derived.Test.YtjiaomkjebbkpabBase
import Derived.Test.YtjiaomkjebbkpabRows
namespace Go.Proofs.Ytjiaomkjebbkpab
open Go.RowKit
set_option linter.unusedVariables false

/-- Is it an element? -/
def isE (a : Int) : Bool := decide (0 ≤ a ∧ a < 8192)
theorem isE_true {a : Int} (h : isE a = true) : ∃ n : Nat, a = n ∧ n < 8192 := by
  unfold isE at h
  simp at h
  exact ⟨a.toNat, by omega, by omega⟩
theorem isE_nat {n : Nat} (h : n < 8192) : isE n = true := by unfold isE; simp; omega
theorem isE_false {a : Int} (h : isE a = false) : a < 0 ∨ 8192 ≤ a := by unfold isE at h; simp at h; omega

theorem xor_step (a b k : Nat) : (a ^^^ b) % 2 ^ (k + 1) = (a ^^^ b) % 2 ^ k + (if a / 2 ^ k % 2 = b / 2 ^ k % 2 then 0 else 2 ^ k) := by
  rw [Nat.mod_pow_succ]
  congr 1
  have h := Nat.testBit_xor a b k
  simp only [Nat.testBit_eq_decide_div_mod_eq] at h
  have e1 : (a ^^^ b) / 2 ^ k % 2 = 0 ∨ (a ^^^ b) / 2 ^ k % 2 = 1 := by omega
  have e2 : a / 2 ^ k % 2 = 0 ∨ a / 2 ^ k % 2 = 1 := by omega
  have e3 : b / 2 ^ k % 2 = 0 ∨ b / 2 ^ k % 2 = 1 := by omega
  rcases e1 with e1 | e1 <;> rcases e2 with e2 | e2 <;> rcases e3 with e3 | e3 <;> rw [e1, e2, e3] at h ⊢ <;> simp at h ⊢
theorem div_step (a k : Nat) : a / 2 ^ (k + 1) = a / 2 ^ k / 2 := by rw [Nat.pow_succ, Nat.div_div_eq_div_mul]
theorem lt_of_div_zero (a k : Nat) (h : a / 2 ^ k = 0) : a < 2 ^ k := by
  rcases Nat.lt_or_ge a (2 ^ k) with h' | h'
  · exact h'
  · have := Nat.div_pos h' (Nat.two_pow_pos k); omega
theorem pow_le_20 (k : Nat) (h : k ≤ 20) : 2 ^ k ≤ 1048576 := Nat.pow_le_pow_right (n := 2) (by decide) h
theorem div_big (a k : Nat) (ha : a < 1048576) (h : a / 2 ^ k ≠ 0) : k < 20 := by
  rcases Nat.lt_or_ge k 20 with h' | h'
  · exact h'
  · exfalso
    apply h
    have : 2 ^ 20 ≤ 2 ^ k := Nat.pow_le_pow_right (by decide) h'
    exact Nat.div_eq_of_lt (by omega)

theorem testBit_div (b k : Nat) : b.testBit k = decide (b / 2 ^ k % 2 = 1) := Nat.testBit_eq_decide_div_mod_eq
theorem gmulTo_stop (a b k j : Nat) (h : b < 2 ^ k) : gmulTo a b (k + j) = gmulTo a b k := by
  induction j with
  | zero => rfl
  | succ j ih =>
    rw [← Nat.add_assoc]
    simp only [gmulTo]
    rw [ih, Nat.testBit_lt_two_pow (Nat.lt_of_lt_of_le h (Nat.pow_le_pow_right (by decide) (by omega)))]
    simp
theorem gmul_stop (a b k : Nat) (h : b / 2 ^ k = 0) (hk : k ≤ 13) : gmulTo a b k = gmul a b := by
  unfold gmul
  rw [← gmulTo_stop a b k (13 - k) (lt_of_div_zero b k h), show k + (13 - k) = 13 from by omega]
theorem div_big13 (a k : Nat) (ha : a < 8192) (h : a / 2 ^ k ≠ 0) : k < 13 := by
  rcases Nat.lt_or_ge k 13 with h' | h'
  · exact h'
  · exfalso
    apply h
    have : 2 ^ 13 ≤ 2 ^ k := Nat.pow_le_pow_right (by decide) h'
    exact Nat.div_eq_of_lt (by omega)

theorem pow_half (a n : Nat) (ha : a < 8192) : gpow a n = if n % 2 = 1 then gmul a (gpow (gmul a a) (n / 2)) else gpow (gmul a a) (n / 2) := by
  have e : gpow (gmul a a) (n / 2) = gpow a (2 * (n / 2)) := by
    rw [gpow_mul a 2 _ ha]
    congr 1
    show gmul a a = gmul (gpow a 1) a
    rw [gpow_one a ha]
  rw [e]
  by_cases h : n % 2 = 1
  · rw [if_pos h, gmul_comm a _ ha (gpow_lt a _ ha)]
    show gpow a n = gpow a (2 * (n / 2) + 1)
    congr 1
    omega
  · rw [if_neg h]
    congr 1
    omega
theorem pow_rel_odd (a n a0 n0 o : Nat) (ha : a < 8192) (ho : o < 8192) (h : n % 2 = 1) (hr : gmul o (gpow a n) = gpow a0 n0) : gmul (gmul o a) (gpow (gmul a a) (n / 2)) = gpow a0 n0 := by
  rw [pow_half a n ha, if_pos h] at hr
  rw [gmul_assoc o a _ ho ha (gpow_lt _ _ (gmul_lt a a ha))]
  exact hr
theorem pow_rel_even (a n a0 n0 o : Nat) (ha : a < 8192) (h : ¬ n % 2 = 1) (hr : gmul o (gpow a n) = gpow a0 n0) : gmul o (gpow (gmul a a) (n / 2)) = gpow a0 n0 := by
  rw [pow_half a n ha, if_neg h] at hr
  exact hr

theorem tmod_neg (n : Int) (h : n < 0) : n.tmod 8191 = -((-n) % 8191) := by
  have := Int.neg_tmod (-n) 8191
  rw [Int.neg_neg] at this
  rw [this, Int.tmod_eq_emod_of_nonneg (by omega)]

end Go.Proofs.Ytjiaomkjebbkpab
