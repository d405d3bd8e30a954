/-
  What the code of layer 3 (poly) must return, function by function (the face that the laws' walks lean on), and awake, add, mul, small of the laws.
-/
import Derived.Test.YtjiaomkjebbkpabPolyRefMul
import Derived.Test.YtjiaomkjebbkpabBits
namespace Go.Proofs.Ytjiaomkjebbkpab
open Go.RowKit
set_option linter.unusedVariables false

/-- A call hands back the list r and the error number n. -/
def Hands (w : World) (r : List Nat) (n : Int) (e : Ending) (w' : World) : Prop :=
  ∃ a cap, e = .returned (.tuple #[.slice a r.length cap, .int .i64 n]) ∧ Row .i64 w' a r.length cap (ints r) ∧ Below w.heap.size w w'

structure AddC : Prop where
  no : ∀ (a c : Option Addr) (len cap len' cap' : Nat) (zs ys : List Int) (w : World), Row .i64 w a len cap zs → Row .i64 w c len' cap' ys → len ≤ 10000 → len' ≤ 10000 → (allE zs && allE ys) = false → Calls Try.prog 27 #[.slice a len cap, .slice c len' cap'] w (Hands w [] 1)
  yes : ∀ (a c : Option Addr) (len cap len' cap' : Nat) (p q : List Nat) (w : World), Row .i64 w a len cap (ints p) → Row .i64 w c len' cap' (ints q) → len ≤ 10000 → len' ≤ 10000 → IsP p → IsP q → Calls Try.prog 27 #[.slice a len cap, .slice c len' cap'] w (Hands w (norm (addL p q)) 0)
structure PMulC : Prop where
  no : ∀ (a c : Option Addr) (len cap len' cap' : Nat) (zs ys : List Int) (w : World), Row .i64 w a len cap zs → Row .i64 w c len' cap' ys → len ≤ 10000 → len' ≤ 10000 → (allE zs && allE ys) = false → Calls Try.prog 42 #[.slice a len cap, .slice c len' cap'] w (Hands w [] 1)
  yes : ∀ (a c : Option Addr) (len cap len' cap' : Nat) (p q : List Nat) (w : World), Row .i64 w a len cap (ints p) → Row .i64 w c len' cap' (ints q) → len ≤ 10000 → len' ≤ 10000 → IsP p → IsP q → Calls Try.prog 42 #[.slice a len cap, .slice c len' cap'] w (Hands w (norm (mulL p q)) 0)
structure EvalC : Prop where
  no : ∀ (a : Option Addr) (len cap : Nat) (zs : List Int) (x : Int) (w : World), Row .i64 w a len cap zs → len ≤ 10000 → (allE zs && isE x) = false → Calls Try.prog 29 #[.slice a len cap, .int .i64 x] w fun e w' => e = .returned (.tuple #[.int .i64 0, .int .i64 1]) ∧ Below w.heap.size w w'
  yes : ∀ (a : Option Addr) (len cap : Nat) (p : List Nat) (x : Nat) (w : World), Row .i64 w a len cap (ints p) → len ≤ 10000 → IsP p → x < 8192 → Calls Try.prog 29 #[.slice a len cap, .int .i64 x] w fun e w' => e = .returned (.tuple #[.int .i64 (evl p x : Nat), .int .i64 0]) ∧ Below w.heap.size w w'
theorem IsDiv.unique' {p q r s r' s' : List Nat} (hq : IsP q) (h1 : Eqv (addL (mulL q r) s) p) (h2 : Eqv (addL (mulL q r') s') p) (hr : IsP r) (hr' : IsP r') (ns : (norm s).length < (norm q).length) (ns' : (norm s').length < (norm q).length) : Eqv r r' ∧ Eqv s s' :=
  div_unique q r s r' s' hq hr hr' (h1.trans h2.symm) ns ns'

theorem isP_all (z : List Nat) (h : z.all (fun n => decide (n < 8192)) = true) : IsP z := by
  intro n hn
  have := List.all_eq_true.1 h n hn
  simpa using this
theorem mul_ex : norm (mulL [1, 1] [1, 1]) = [1, 0, 1] := by decide +kernel
theorem evl_ex : evl [1, 0, 1] 2 = 5 := by decide +kernel
theorem ints_lit (p : List Nat) : ints p = p.map fun n : Nat => (n : Int) := rfl

end Go.Proofs.Ytjiaomkjebbkpab
