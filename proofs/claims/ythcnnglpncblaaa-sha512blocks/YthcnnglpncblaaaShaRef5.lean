/-
  Layer 13's reference: Pad.
-/
import Derived.Test.YthcnnglpncblaaaShaCode6
namespace Go.Proofs.Ythcnnglpncblaaa
open Go.RowKit
set_option linter.unusedVariables false
set_option maxRecDepth 8192

theorem pow256 (k : Nat) : 256 ^ k = 2 ^ (8 * k) := by rw [show 256 = 2 ^ 8 from rfl, ← Nat.pow_mul]
theorem pad_go {n k : Nat} (h : k < noughts n) : (n + 1 + k + 8) % 64 ≠ 0 := by unfold noughts at h; omega
theorem pad_end (n : Nat) : (n + 1 + noughts n + 8) % 64 = 0 := by unfold noughts; omega
/-- The padding as it grows. -/
def padTo (n k : Nat) : List Nat := 128 :: List.replicate k 0
theorem padTo_snoc (n k : Nat) : padTo n k ++ [0] = padTo n (k + 1) := by simp [padTo, List.replicate_succ']
theorem rel_push_u8 {B : Nat} {e : TypeId} {w wr w1 : World} {v v' : Value} {o : Obj} {n : Nat} {xs : List Nat} {x : Nat} (hB : B ≤ wr.heap.size)
    (hown : wr.ownsRow B e 1 v n ((nI xs).map (Value.int .u8))) (hnx : Below B w wr)
    (hown' : w1.ownsRow B e 1 v' (n + 1) ((nI xs).map (Value.int .u8) ++ [.int .u8 (x : Int)])) (hgrow : (wr.alloc o).grownBy w1 v.ownBlock) :
    w1.ownsRow B e 1 v' (n + 1) ((nI (xs ++ [x])).map (Value.int .u8)) ∧ Below B w w1 := by
  have R := rel_push hB hown hnx hown' hgrow
  rw [← nI_snoc] at R
  exact R
end Go.Proofs.Ythcnnglpncblaaa
