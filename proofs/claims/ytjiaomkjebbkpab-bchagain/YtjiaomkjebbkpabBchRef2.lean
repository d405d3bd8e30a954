/-
  Layer 5's reference, on: Is, generator, padded, Encode; nothing old turns.
-/
import Derived.Test.YtjiaomkjebbkpabBchRef
namespace Go.Proofs.Ytjiaomkjebbkpab
open Go.RowKit
set_option linter.unusedVariables false

/-- Are all sums 0? -/
def codeB (t : Nat) (p : List Nat) : Bool := (sumsTo p (2 * t)).all fun v => v == 0
theorem codeB_true {t : Nat} {p : List Nat} (h : ∀ j, j < 2 * t → cf (sumsTo p (2 * t)) j = 0) : codeB t p = true := by
  apply List.all_eq_true.2
  intro v hv
  obtain ⟨j, hj, rfl⟩ := List.mem_iff_getElem.1 hv
  have hj' : j < 2 * t := by rw [length_sumsTo] at hj; exact hj
  have := h j hj'
  unfold cf at this
  rw [List.getElem?_eq_getElem hj] at this
  simpa using this
theorem codeB_false {t : Nat} {p : List Nat} (j : Nat) (hj : j < 2 * t) (h : cf (sumsTo p (2 * t)) j ≠ 0) : codeB t p = false := by
  rw [← Bool.not_eq_true]
  intro ha
  apply h
  have hl : j < (sumsTo p (2 * t)).length := by rw [length_sumsTo]; exact hj
  have := List.all_eq_true.1 ha _ (List.getElem_mem hl)
  unfold cf
  rw [List.getElem?_eq_getElem hl]
  simpa using this
theorem codeB_iff (t : Nat) (p : List Nat) : codeB t p = true ↔ code t p := by
  rw [sums_code]
  constructor
  · intro h i hi
    rcases Decidable.em (cf (sumsTo p (2 * t)) i = 0) with h1 | h1
    · exact h1
    · rw [codeB_false i hi h1] at h; simp at h
  · exact codeB_true

/-- What the reference's product by x + X holds behind i rounds, at the place j; and with the first half of the next round. -/
def qAt (p : List Nat) (x i h j : Nat) : Nat := (if j < i + h then gmul (cf p j) x else 0) ^^^ (if 1 ≤ j ∧ j ≤ i then cf p (j - 1) else 0)
def qTo (p : List Nat) (x i h : Nat) : List Nat := (List.range (p.length + 1)).map (qAt p x i h)
theorem length_qTo (p : List Nat) (x i h : Nat) : (qTo p x i h).length = p.length + 1 := by simp [qTo]
theorem cf_qTo (p : List Nat) (x i h j : Nat) (hj : j < p.length + 1) : cf (qTo p x i h) j = qAt p x i h j := by simp [cf, qTo, hj]
theorem qTo_zero (p : List Nat) (x : Nat) : qTo p x 0 0 = List.replicate (p.length + 1) 0 := by
  apply List.ext_getElem
  · simp [qTo]
  · intro j h1 h2
    simp only [qTo, List.getElem_map, List.getElem_range, qAt, List.getElem_replicate]
    rw [if_neg (by omega), if_neg (by omega), Nat.xor_self]
theorem qTo_half (p : List Nat) (x i : Nat) (hi : i < p.length) : qTo p x i 1 = (qTo p x i 0).set i (cf (qTo p x i 0) i ^^^ gmul (cf p i) x) := by
  have e0 := cf_qTo p x i 0 i (by omega)
  apply List.ext_getElem
  · simp [qTo]
  · intro j h1 h2
    rw [List.getElem_set]
    by_cases e : i = j
    · subst e
      rw [if_pos rfl, e0]
      simp only [qTo, List.getElem_map, List.getElem_range, qAt]
      rw [if_pos (show i < i + 1 by omega), if_neg (show ¬ i < i + 0 by omega), Nat.zero_xor, Nat.xor_comm]
    · rw [if_neg e]
      simp only [qTo, List.getElem_map, List.getElem_range, qAt]
      congr 1
      by_cases h : j < i
      · rw [if_pos (by omega), if_pos (by omega)]
      · rw [if_neg (by omega), if_neg (by omega)]
theorem qTo_next (p : List Nat) (x i : Nat) (hi : i < p.length) : qTo p x (i + 1) 0 = (qTo p x i 1).set (i + 1) (cf (qTo p x i 1) (i + 1) ^^^ cf p i) := by
  have e0 := cf_qTo p x i 1 (i + 1) (by omega)
  apply List.ext_getElem
  · simp [qTo]
  · intro j h1 h2
    rw [List.getElem_set]
    by_cases e : i + 1 = j
    · subst e
      rw [if_pos rfl, e0]
      simp only [qTo, List.getElem_map, List.getElem_range, qAt]
      rw [if_neg (show ¬ i + 1 < i + 1 + 0 by omega), if_pos (by omega), if_neg (show ¬ (1 ≤ i + 1 ∧ i + 1 ≤ i) by omega), Nat.xor_zero, show i + 1 - 1 = i from rfl]
    · rw [if_neg e]
      simp only [qTo, List.getElem_map, List.getElem_range, qAt, Nat.add_zero]
      congr 1
      by_cases h : 1 ≤ j ∧ j ≤ i
      · rw [if_pos (by omega), if_pos h]
      · rw [if_neg (by omega), if_neg h]
theorem isP_qTo {p : List Nat} (hp : IsP p) (x i h : Nat) : IsP (qTo p x i h) := by
  intro v hv
  obtain ⟨j, _, rfl⟩ := List.mem_map.1 hv
  unfold qAt
  refine xor_lt _ _ ?_ ?_
  · split
    · exact gmul_lt _ _ (cf_lt hp _)
    · decide
  · split
    · exact cf_lt hp _
    · decide
theorem qTo_end (p : List Nat) (x : Nat) (hp : IsP p) (hx : x < 8192) : Eqv (qTo p x p.length 0) (mulL [x, 1] p) := fun j => by
  rw [cf_lin_mul x p j hp]
  by_cases hj : j < p.length + 1
  · rw [cf_qTo p x _ _ j hj]
    unfold qAt
    congr 1
    · by_cases h : j < p.length
      · rw [if_pos (by omega), gmul_comm _ _ (cf_lt hp j) hx]
      · rw [if_neg (by omega), cf_big p j (by omega), gmul_zero]
    · cases j with
      | zero => rw [if_neg (by omega)]; rfl
      | succ j => rw [if_pos (by omega), cf_succ]; rfl
  · rw [cf_big _ _ (by rw [length_qTo]; omega), cf_big p j (by omega), gmul_zero, Nat.zero_xor]
    cases j with
    | zero => omega
    | succ j => rw [cf_succ, cf_big p j (by omega)]
/-- The reference's product over the first k conjugates. -/
def cl (x : Nat) : Nat → List Nat
  | 0 => [1]
  | k + 1 => qTo (cl x k) (sqN x k) (cl x k).length 0
theorem length_cl (x k : Nat) : (cl x k).length = k + 1 := by
  induction k with
  | zero => rfl
  | succ k ih => show (qTo _ _ _ _).length = _; rw [length_qTo, ih]
theorem isP_cl (x k : Nat) : IsP (cl x k) := by
  induction k with
  | zero => exact isP_one1
  | succ k ih => exact isP_qTo ih _ _ _
theorem cl_conjp (x k : Nat) (hx : x < 8192) : Eqv (cl x k) (conjp x k) := by
  induction k with
  | zero => exact Eqv.refl _
  | succ k ih => exact (qTo_end _ _ (isP_cl x k) (sqN_lt x k hx)).trans (mulL_right _ ih)
theorem cl_min (x : Nat) (hx : x < 8192) (h0 : x ≠ 0) (h1 : x ≠ 1) : Eqv (cl x 13) (minp x) ∧ Is01 (cl x 13) := by
  have h := (cl_conjp x 13 hx).trans (minp_conjp x hx h0 h1)
  exact ⟨h, is01_of fun i => by rw [h i]; exact (minp_is x hx h0).h01.cf i⟩

end Go.Proofs.Ytjiaomkjebbkpab
