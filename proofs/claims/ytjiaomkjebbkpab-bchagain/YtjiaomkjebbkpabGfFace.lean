/-
  What the code of layer 2 (gf) must return, function by function (the face that the laws' walks lean on), and awake and mul of the laws.
-/
import Derived.Test.YtjiaomkjebbkpabGfRef
namespace Go.Proofs.Ytjiaomkjebbkpab
open Go.RowKit
set_option linter.unusedVariables false

structure MulC : Prop where
  no : ∀ (a b : Int) (w : World), (isE a && isE b) = false → Calls Try.prog 49 #[.int .i64 a, .int .i64 b] w fun e w' => e = .returned (.tuple #[.int .i64 0, .int .i64 1]) ∧ Below w.heap.size w w'
  yes : ∀ (a b : Nat) (w : World), a < 8192 → b < 8192 → Calls Try.prog 49 #[.int .i64 a, .int .i64 b] w fun e w' => e = .returned (.tuple #[.int .i64 (gmul a b : Nat), .int .i64 0]) ∧ Below w.heap.size w w'
theorem MulC.int (h : MulC) (x y : Int) (w : World) (h0 : 0 ≤ x) (h1 : x < 8192) (h2 : 0 ≤ y) (h3 : y < 8192) :
    Calls Try.prog 49 #[.int .i64 x, .int .i64 y] w fun e w' => e = .returned (.tuple #[.int .i64 (gmul x.toNat y.toNat : Nat), .int .i64 0]) ∧ Below w.heap.size w w' := by
  obtain ⟨a, rfl⟩ := Int.eq_ofNat_of_zero_le h0
  obtain ⟨b, rfl⟩ := Int.eq_ofNat_of_zero_le h2
  exact h.yes a b w (by omega) (by omega)
structure InvC : Prop where
  no : ∀ (a : Int) (w : World), isE a = false → Calls Try.prog 28 #[.int .i64 a] w fun e w' => e = .returned (.tuple #[.int .i64 0, .int .i64 1]) ∧ Below w.heap.size w w'
  zero : ∀ (w : World), Calls Try.prog 28 #[.int .i64 0] w fun e w' => e = .returned (.tuple #[.int .i64 0, .int .i64 20]) ∧ Below w.heap.size w w'
  yes : ∀ (a : Nat) (w : World), a < 8192 → a ≠ 0 → Calls Try.prog 28 #[.int .i64 a] w fun e w' => e = .returned (.tuple #[.int .i64 (ginv a : Nat), .int .i64 0]) ∧ Below w.heap.size w w'
structure PowC : Prop where
  no : ∀ (a n : Int) (w : World), isE a = false → -9223372036854775808 ≤ n → n ≤ 9223372036854775807 → Calls Try.prog 47 #[.int .i64 a, .int .i64 n] w fun e w' => e = .returned (.tuple #[.int .i64 0, .int .i64 1]) ∧ Below w.heap.size w w'
  zneg : ∀ (n : Int) (w : World), n < 0 → -9223372036854775808 ≤ n → Calls Try.prog 47 #[.int .i64 0, .int .i64 n] w fun e w' => e = .returned (.tuple #[.int .i64 0, .int .i64 20]) ∧ Below w.heap.size w w'
  zzero : ∀ (w : World), Calls Try.prog 47 #[.int .i64 0, .int .i64 0] w fun e w' => e = .returned (.tuple #[.int .i64 1, .int .i64 0]) ∧ Below w.heap.size w w'
  zpos : ∀ (n : Int) (w : World), 0 < n → n ≤ 9223372036854775807 → Calls Try.prog 47 #[.int .i64 0, .int .i64 n] w fun e w' => e = .returned (.tuple #[.int .i64 0, .int .i64 0]) ∧ Below w.heap.size w w'
  yes : ∀ (a : Nat) (n : Int) (w : World), a < 8192 → a ≠ 0 → -9223372036854775808 ≤ n → n ≤ 9223372036854775807 → Calls Try.prog 47 #[.int .i64 a, .int .i64 n] w fun e w' => e = .returned (.tuple #[.int .i64 (gz a n : Nat), .int .i64 0]) ∧ Below w.heap.size w w'
def ExpC : Prop := ∀ (n : Int) (w : World), -9223372036854775808 ≤ n → n ≤ 9223372036854775807 → Calls Try.prog 24 #[.int .i64 n] w fun e w' => e = .returned (.int .i64 (gz 2 n : Nat)) ∧ Below w.heap.size w w'
theorem ginv_two : ginv 2 = 4109 := (ginv_unique 2 4109 (by decide) (by decide) (by decide +kernel)).symm
theorem pow_two_13 : gpow 2 13 = 27 := by decide +kernel
theorem log_27 (n : Nat) (h : n < 8191) (h' : gpow 2 n = 27) : n = 13 := two_inj n 13 h (by decide) (by rw [h', pow_two_13])
theorem gz_two_13 : gz 2 13 = 27 := by rw [show (13 : Int) = ((13 : Nat) : Int) from rfl, gz_nat 2 13 (by decide) (by decide), pow_two_13]

end Go.Proofs.Ytjiaomkjebbkpab
