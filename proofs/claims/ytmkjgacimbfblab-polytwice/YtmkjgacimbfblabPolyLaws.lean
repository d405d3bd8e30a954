/-
  The walks of layer 3's laws, out of the face of poly: each returns true; nothing old turns.
-/
import Derived.Test.YtmkjgacimbfblabPolyFace
namespace Go.Proofs.Ytmkjgacimbfblab
open Go.RowKit
set_option linter.unusedVariables false

theorem len_add (p q : List Nat) : (norm (addL p q)).length ≤ p.length + q.length := norm_len_le _ _ fun i hi => by
  rw [cf_addL, cf_big p i (by omega), cf_big q i (by omega)]; rfl
theorem len_mul (p q : List Nat) : (norm (mulL p q)).length ≤ p.length + q.length := norm_len_le _ _ fun i hi => mulL_high p q i hi
theorem len_der (p : List Nat) : (norm (derL p)).length ≤ p.length := norm_len_le _ _ fun i hi => by
  rw [cf_derL, cf_big p (i + 1) (by omega)]; split <;> rfl
theorem eq_len {k : IntKind} {w : World} {a : Option Addr} {len cap : Nat} {p : List Nat} (h : Row k w a len cap (ints p)) : p.length = len := by have := h.hlen; rwa [length_ints] at this

theorem pl_assoc_add (p q r : List Nat) : norm (addL (norm (addL p q)) r) = norm (addL p (norm (addL q r))) :=
  norm_ext ((eqv_addL (norm_eqv _) (Eqv.refl r)).trans ((addL_assoc p q r).trans (eqv_addL (Eqv.refl p) (norm_eqv _).symm)))
theorem pl_comm_mul (p q : List Nat) (hp : IsP p) (hq : IsP q) : norm (mulL p q) = norm (mulL q p) := norm_ext (mulL_comm p q hp hq)
theorem pl_assoc_mul (p q r : List Nat) (hp : IsP p) (hq : IsP q) (hr : IsP r) : norm (mulL (norm (mulL p q)) r) = norm (mulL p (norm (mulL q r))) :=
  norm_ext ((mulL_left r (isP_norm (isP_mulL q hp)) (isP_mulL q hp) hr (norm_eqv _)).trans ((mulL_assoc p q r hp hq hr).trans (mulL_right p (norm_eqv _).symm)))
theorem pl_dist (p q r : List Nat) : norm (mulL p (norm (addL q r))) = norm (addL (norm (mulL p q)) (norm (mulL p r))) :=
  norm_ext ((mulL_right p (norm_eqv _)).trans ((mulL_add_right p q r).trans (eqv_addL (norm_eqv _).symm (norm_eqv _).symm)))

end Go.Proofs.Ytmkjgacimbfblab
