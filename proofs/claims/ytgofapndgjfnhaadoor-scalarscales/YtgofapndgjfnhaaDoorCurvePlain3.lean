/-
  Layer 17, in plain words: which x makes a point of y; the base; what a sum undoes.
-/
import Derived.Test.YtgofapndgjfnhaaDoorCurvePlain2
namespace Go.Proofs.YtgofapndgjfnhaaDoor.N
set_option linter.unusedVariables false
set_option maxRecDepth 8192

theorem sq_one {x y : Fp} (h : x * x = y * y) : x = y ∨ x = -y := by
  have h1 : (x - y) * (x + y) = 0 := by grind
  rcases fp_mul_zero h1 with h2 | h2
  · left; grind
  · right; grind
theorem neg_one_add : (-1 : Fp) + 1 = 0 := by decide
theorem down_aux (i d y : Fp) (hi : i * i = -1) (h : 1 + d * y * y = 0) : i * i = d * (y * y) := by
  have h1 : i * i + 1 = 0 := by rw [hi]; exact neg_one_add
  have h2 : i * i + 1 = d * (y * y) + 1 := by rw [h1, ← h]; grind
  grind
/-- 1 and d y y is never 0. -/
theorem down_ne (y : Fp) : 1 + cD * y * y ≠ 0 := fun h => by
  have h3 : 1 + cD * (0 : Fp) * 0 = 1 := by rw [Fin.mul_zero, Fin.add_zero]
  have hy : y ≠ 0 := fun e => one_ne (by rw [e, h3] at h; exact h)
  exact cD_no (u := cI) (v := y) hy (down_aux cI cD y cI_sq h)
theorem on_iff (x y : Fp) : OnC ⟨x, y⟩ ↔ x * x * (1 + cD * y * y) = y * y - 1 := by
  unfold OnC
  constructor
  · intro h; show x * x * (1 + cD * y * y) = y * y - 1; have h1 : y * y - x * x = 1 + cD * x * x * y * y := h; grind
  · intro h; show y * y - x * x = 1 + cD * x * x * y * y; grind
/-- Two points of one y: x, or what it lacks to p. -/
theorem on_two {x x' y : Fp} (h : OnC ⟨x, y⟩) (h' : OnC ⟨x', y⟩) : x = x' ∨ x = -x' := by
  have h1 := (on_iff x y).1 h
  have h2 := (on_iff x' y).1 h'
  exact sq_one (fp_cancel (down_ne y) (by grind))
/-- The x of a point is a root of (y y - 1) divided by (1 and d y y). -/
theorem on_root {x y s : Fp} (hs : s * (1 + cD * y * y) = y * y - 1) : OnC ⟨x, y⟩ ↔ x * x = s := by
  rw [on_iff]
  constructor
  · intro h; exact fp_cancel (down_ne y) (by grind)
  · intro h; rw [h]; exact hs
/-- The base. -/
def baseX : Nat := 15112221349535400772501151409588531511454012693041857206046113283949847762202
def baseY : Nat := 46316835694926478169428394003475163141307993866256225615783033603165251855960
theorem baseX_lt : baseX < fP := by decide
theorem baseY_lt : baseY < fP := by decide
theorem baseY_is : baseY * 5 % fP = 4 := by decide
theorem baseX_even : baseX % 2 = 0 := by decide
def pbase : Pt := ⟨⟨baseX, baseX_lt⟩, ⟨baseY, baseY_lt⟩⟩
theorem pbase_on : OnC pbase := by unfold OnC pbase; decide +kernel
theorem psum_left {p q r : Pt} (hp : OnC p) (hq : OnC q) (hr : OnC r) (h : psum p q = psum p r) : q = r := by
  have e : ∀ s, OnC s → psum (pneg p) (psum p s) = s := fun s hs => by
    rw [← psum_assoc (pneg_on hp) hp hs, psum_comm (pneg_on hp) hp, psum_neg hp, psum_comm pzero_on hs, psum_zero hs]
  rw [← e q hq, h, e r hr]
theorem own_neg {p : Pt} (hp : OnC p) : p = pneg p ↔ psum p p = pzero := by
  constructor
  · intro h
    have := psum_neg hp
    rwa [← h] at this
  · intro h
    exact psum_left hp hp (pneg_on hp) (by rw [h, psum_neg hp])
theorem pneg_times {p : Pt} (hp : OnC p) (n : Nat) : psum (ptimes (n + 1) p) (pneg p) = ptimes n p := by
  show psum (psum (ptimes n p) p) (pneg p) = _
  rw [psum_assoc (ptimes_on hp n) hp (pneg_on hp), psum_neg hp, psum_zero (ptimes_on hp n)]
end Go.Proofs.YtgofapndgjfnhaaDoor.N
