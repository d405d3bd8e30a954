/-
  Layer 18, in plain words: so many times the base as the order is the zero point; the base scaled by what is left.
-/
import Derived.Test.YtgofapndgjfnhaaDoorCurvePlain4
import Derived.Test.YtgofapndgjfnhaaDoorScalarPlain
namespace Go.Proofs.YtgofapndgjfnhaaDoor.N
set_option linter.unusedVariables false
set_option maxRecDepth 8192

def base3 : T3 := ⟨⟨baseX, baseX_lt⟩, ⟨baseY, baseY_lt⟩, 1⟩
theorem order_run : (run3 base3 oL 253 253).x = 0 ∧ (run3 base3 oL 253 253).y = (run3 base3 oL 253 253).z := by decide +kernel
theorem base_order : ptimes oL pbase = pzero := by
  have h := Stands.all (Stands.one pbase) pbase_on oL 253 oL_lt
  have e : (⟨pbase.x, pbase.y, 1⟩ : T3) = base3 := rfl
  rw [e] at h
  obtain ⟨h1, h2⟩ := order_run
  have h3 := h.div
  have h4 := finv_mul h.z
  rw [h1, h2] at h3
  generalize run3 base3 oL 253 253 = t at *
  apply Pt.ext
  · rw [← h3.1]; show (0 : Fp) * _ = 0; grind
  · rw [← h3.2]; show _ = (1 : Fp); grind
theorem base_mod (v : Nat) : ptimes (v % oL) pbase = ptimes v pbase := by
  have e : v = oL * (v / oL) + v % oL := (Nat.div_add_mod v oL).symm
  have h1 : ptimes v pbase = psum (ptimes (oL * (v / oL)) pbase) (ptimes (v % oL) pbase) := by
    rw [← ptimes_add pbase_on]
    exact congrArg (fun n => ptimes n pbase) e
  rw [h1, ptimes_mul pbase_on, base_order, ptimes_zero, psum_comm pzero_on (ptimes_on pbase_on _), psum_zero (ptimes_on pbase_on _)]
end Go.Proofs.YtgofapndgjfnhaaDoor.N
