/-
  Layer 13's reference: Primes, Start, Rounds.
-/
import Derived.Test.YtoijeefmddopbabShaRef3
namespace Go.Proofs.Ytoijeefmddopbab
open Go.RowKit
set_option linter.unusedVariables false
set_option maxRecDepth 8192

theorem apartR_take (p : Nat) (l : List Nat) (k : Nat) (hk : k < l.length) : apartR p (l.take (k + 1)) = (apartR p (l.take k) && !(Nat.beq (p % l[k]?.getD 0) 0)) := by
  unfold apartR
  rw [List.take_add_one, List.getElem?_eq_getElem hk, List.all_append]
  simp
theorem prL_take_get (n i : Nat) (h : i < n) : (prL.take n)[i]?.getD 0 = prL[i]?.getD 0 := by rw [List.getElem?_take, if_pos h]
theorem prL_get_lt (i : Nat) : prL[i]?.getD 0 < 542 := by
  rcases Nat.lt_or_ge i prL.length with h | h
  · rw [List.getElem?_eq_getElem h]; exact prL_lt _ (List.getElem_mem h)
  · rw [List.getElem?_eq_none h]; decide
theorem map_take_get (f : Nat → Nat) (n i : Nat) (L : List Nat) (h : (prL.take n).map f = L) (hn : n ≤ 100) (hi : i < n) : L[i]?.getD 0 = f (prL[i]?.getD 0) := by
  have hl : i < prL.length := by rw [prL_length]; omega
  rw [← h, List.getElem?_map, List.getElem?_take, if_pos hi, List.getElem?_eq_getElem hl]
  rfl
theorem take_snocN (ps : List Nat) (k : Nat) (h : k < ps.length) : ps.take (k + 1) = ps.take k ++ [ps[k]?.getD 0] := by
  rw [List.take_add_one, List.getElem?_eq_getElem h]; rfl
end Go.Proofs.Ytoijeefmddopbab
