/-
  The code of layer 15 (nums), as it landed: Add, Sub, Mul.
-/
import Derived.Test.YtejbpcdfmlkemaaNumCode2
import Derived.Test.YtejbpcdfmlkemaaNumCode3
namespace Go.Proofs.Ytejbpcdfmlkemaa.N
open Go.RowKit
set_option linter.unusedVariables false
set_option maxRecDepth 8192

theorem Arr.full {w : World} {g : Nat} {T : TypeId} {v n : Nat} (h : Arr w g T .u8 (nI (digL v n))) (hn : n ≤ 1000000) : Row .u8 w (some ⟨g, 0, none⟩) n n (nI (digL v n)) := by
  have := h.win 0 n n (by rw [nI_length, digL_length]; omega) (Nat.le_refl _) (by unfold maxLen; omega)
  rwa [List.drop_zero, List.take_of_length_le (by rw [nI_length, digL_length]; exact Nat.le_refl _)] at this
theorem nt_len_le {z : List Nat} {len : Nat} (h : z.length = len) : tl z ≤ len := by have := tl_le z; omega
end Go.Proofs.Ytejbpcdfmlkemaa.N
