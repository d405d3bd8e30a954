/-
  Layer 15's laws: what they share: small, awake; how many bytes a number has.
-/
import Derived.Test.YtacicjnhpklkfaaDoorNumCode6
namespace Go.Proofs.YtacicjnhpklkfaaDoor.N
open Go.RowKit
set_option linter.unusedVariables false
set_option maxRecDepth 8192

theorem nb_lt (v : Nat) : v < 256 ^ (nb v).length := by have := (dig_nb v).vL_lt; rwa [vL_nb] at this
theorem nb_len_le {x y : Nat} (h : x ≤ y) : (nb x).length ≤ (nb y).length := nb_len (Nat.lt_of_le_of_lt h (nb_lt y))
theorem nb_len_mul (x y : Nat) : (nb (x * y)).length ≤ (nb x).length + (nb y).length := nb_len (mul_lt (nb_lt x) (nb_lt y))
theorem nb_len_add (x y : Nat) : (nb (x + y)).length ≤ (nb x).length + (nb y).length + 1 := by
  apply nb_len
  have h1 : x < 256 ^ ((nb x).length + (nb y).length) := Nat.lt_of_lt_of_le (nb_lt x) (Nat.pow_le_pow_right (by decide) (by omega))
  have h2 : y < 256 ^ ((nb x).length + (nb y).length) := Nat.lt_of_lt_of_le (nb_lt y) (Nat.pow_le_pow_right (by decide) (by omega))
  rw [Nat.pow_succ]
  omega
theorem nb_len_mod (x y : Nat) : (nb (x % y)).length ≤ (nb x).length := nb_len_le (Nat.mod_le _ _)
theorem nb_len_sub (x y : Nat) : (nb (x - y)).length ≤ (nb x).length := nb_len_le (Nat.sub_le _ _)
theorem nb_len_vL {a : List Nat} (h : Dig a) : (nb (vL a)).length ≤ a.length := nb_len h.vL_lt
/-- Bytes that came in, as numbers. -/
theorem bytes_nat {zs : List Int} (h : ∀ n ∈ zs, 0 ≤ n ∧ n ≤ 255) : ∃ l : List Nat, zs = nI l ∧ Dig l := by
  refine ⟨zs.map Int.toNat, ?_, ?_⟩
  · unfold nI
    rw [List.map_map]
    have e : zs.map ((fun n : Nat => (n : Int)) ∘ Int.toNat) = zs.map id := by
      apply List.map_congr_left
      intro x hx
      have := h x hx
      simp
      omega
    rw [e, List.map_id]
  · intro x hx
    obtain ⟨y, hy, rfl⟩ := List.mem_map.1 hx
    have := h y hy
    omega
theorem nrm_of {l : List Nat} (h1 : l.all (fun n => decide (n < 256)) = true) (h2 : l.length = 0 ∨ dg l (l.length - 1) ≠ 0) : Nrm l :=
  ⟨fun x hx => by have := List.all_eq_true.1 h1 x hx; simpa using this, fun h => h2.elim (fun e => absurd e h) (fun e => e)⟩
theorem dig_all {l : List Nat} (h1 : l.all (fun n => decide (n < 256)) = true) : Dig l := fun x hx => by have := List.all_eq_true.1 h1 x hx; simpa using this
end Go.Proofs.YtacicjnhpklkfaaDoor.N
