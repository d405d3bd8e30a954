/-
  Layer 13's reference, of numbers as digits: digits, Times, Greater, above, frac.
-/
import Derived.Test.YtoijeefmddopbabShaRef
namespace Go.Proofs.Ytoijeefmddopbab
open Go.RowKit
set_option linter.unusedVariables false
set_option maxRecDepth 8192

theorem belowN {B : Nat} {a w : World} (h : Below B a w) (n : Nat) : Below B a (w.drewN n) := ⟨h.os, h.tape, h.output, h.size, h.block⟩
theorem ownsSince {w w' : World} {base : Nat} {e : TypeId} {size : Nat} {v : Value} {n : Nat} {xs : List Value} (h : w.ownsRow base e size v n xs) (hb : Below w.heap.size w w') : w'.ownsRow base e size v n xs := by
  refine ⟨h.1, ?_⟩
  rcases h.2 with h2 | ⟨g, cap, cur, hv, hg, hh, r⟩
  · exact .inl h2
  · have hlt : g < w.heap.size := by
      rcases Nat.lt_or_ge g w.heap.size with hh' | hh'
      · exact hh'
      · rw [Array.getElem?_eq_none hh'] at hh; simp at hh
    exact .inr ⟨g, cap, cur, hv, hg, by rw [hb.block g hlt]; exact hh, r⟩
theorem nI_dg (l : List Nat) (i : Nat) : (nI l)[i]?.getD 0 = ((dg l i : Nat) : Int) := nI_get l i
theorem lt_pow_big (x k : Nat) (hx : x < 549755813888) (h : 0 < x / 65536 ^ k) : k < 3 := by
  rcases Nat.lt_or_ge k 3 with h1 | h1
  · exact h1
  · exfalso
    have h2 : 65536 ^ 3 ≤ 65536 ^ k := Nat.pow_le_pow_right (by decide) h1
    have h3 : x / 65536 ^ k = 0 := Nat.div_eq_of_lt (by omega)
    omega
end Go.Proofs.Ytoijeefmddopbab
