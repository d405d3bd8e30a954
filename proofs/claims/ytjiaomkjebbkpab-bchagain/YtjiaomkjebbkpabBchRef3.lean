/-
  Layer 5's reference, Encode: the more bytes of data; nothing old turns.
-/
import Derived.Test.YtjiaomkjebbkpabBchRef2
namespace Go.Proofs.Ytjiaomkjebbkpab
open Go.RowKit
set_option linter.unusedVariables false

theorem padB_take (n : Nat) (p : List Nat) (h : n ≤ p.length) : p.take n = padB n p := by
  apply list_ext
  · rw [List.length_take, length_padB]; omega
  · intro i hi
    rw [List.length_take] at hi
    rw [cf_take p n i (by omega), cf_padB, if_pos (by omega)]
theorem bts_noughts (n i : Nat) : cf (bts (List.replicate n 0)) i = 0 := by
  rw [cf_bts]
  have e : bitI (List.replicate n 0) i = 0 := by
    unfold bitI
    have : (List.replicate n (0 : Int))[i / 8]?.getD 0 = 0 := by
      by_cases h : i / 8 < n
      · simp [h]
      · rw [List.getElem?_eq_none (by simpa using h)]; rfl
    rw [this]
    unfold bitAt
    simp
  rw [e]; rfl
theorem isB_noughts (n : Nat) : IsB (List.replicate n 0) := fun x hx => by
  have := List.eq_of_mem_replicate hx
  omega

end Go.Proofs.Ytjiaomkjebbkpab
