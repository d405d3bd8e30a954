/-
  Layer 17, in plain words: the curve's points: divisors are never 0, sums are on the curve, hang on no order and no grouping.
-/
import Derived.Test.YtgofapndgjfnhaaDoorFieldPlain
namespace Go.Proofs.YtgofapndgjfnhaaDoor.N
set_option linter.unusedVariables false
set_option maxRecDepth 8192

instance neZeroP : NeZero fP := ⟨by decide⟩
/-- Numbers below p, taken round. -/
abbrev Fp := Fin fP
theorem fp_mul (a b : Fp) : (a * b).val = a.val * b.val % fP := Fin.val_mul a b
theorem fp_add (a b : Fp) : (a + b).val = (a.val + b.val) % fP := Fin.val_add a b
theorem fp_zero : (0 : Fp).val = 0 := rfl
theorem fp_mul_zero {a b : Fp} (h : a * b = 0) : a = 0 ∨ b = 0 := by
  have h1 := congrArg Fin.val h
  rw [fp_mul, fp_zero] at h1
  rcases (mul_zero_iff _ _).1 h1 with h2 | h2
  · left; apply Fin.ext; rw [Nat.mod_eq_of_lt a.isLt] at h2; exact h2
  · right; apply Fin.ext; rw [Nat.mod_eq_of_lt b.isLt] at h2; exact h2
theorem fp_mul_ne {a b : Fp} (ha : a ≠ 0) (hb : b ≠ 0) : a * b ≠ 0 := fun h => (fp_mul_zero h).elim ha hb
theorem fp_cancel {a b c : Fp} (h : a ≠ 0) (e : a * b = a * c) : b = c := by
  have h1 : a * (b - c) = 0 := by grind
  rcases fp_mul_zero h1 with h2 | h2
  · exact absurd h2 h
  · grind
/-- The curve's number. -/
def dN : Nat := 37095705934669439343138083508754565189542113879843219016388785533085940283555
theorem dN_lt : dN < fP := by decide
theorem dN_is : 121666 * dN % fP = fP - 121665 := by decide
def cD : Fp := ⟨dN, dN_lt⟩
theorem dN_half : pwM fP 256 dN ((fP - 1) / 2) = fP - 1 := by decide +kernel
theorem dN_no : ¬ HasRoot dN := fun h => by
  have h1 := euler (by decide) h
  rw [← pwM_eq fP 256 dN ((fP - 1) / 2) (by decide), dN_half] at h1
  exact absurd h1 (by decide)
/-- No square is the curve's number times a square that is not 0. -/
theorem cD_no {u v : Fp} (hv : v ≠ 0) : u * u ≠ cD * (v * v) := fun h => by
  have hv1 : v.val % fP ≠ 0 := by
    rw [Nat.mod_eq_of_lt v.isLt]
    exact fun e => hv (Fin.ext e)
  -- u divided by v
  have hi := inv_mul v.val hv1
  generalize v.val ^ (fP - 2) % fP = i at hi
  apply dN_no
  refine ⟨u.val * i, ?_⟩
  have h1 := congrArg Fin.val h
  rw [fp_mul, fp_mul, fp_mul] at h1
  have h2 : cD.val = dN := rfl
  rw [h2] at h1
  have e1 : u.val * i * (u.val * i) = (u.val * u.val) * (i * i) := by rw [Nat.mul_mul_mul_comm]
  rw [e1, Nat.mul_mod, h1, Nat.mul_mod dN, Nat.mod_mod, ← Nat.mul_mod dN, ← Nat.mul_mod, Nat.mul_assoc, Nat.mul_mul_mul_comm v.val v.val i i, Nat.mul_mod, Nat.mul_mod (v.val * i) (v.val * i), hi]
  rw [Nat.one_mul, Nat.mod_eq_of_lt fP_one, Nat.mul_one, Nat.mod_mod]
/-- A root of -1. -/
def cI : Fp := ⟨pwM fP 256 2 fI, by rw [fI_pow]; exact mod_fP _⟩
theorem cI_sq : cI * cI = -1 := by
  apply Fin.ext
  rw [fp_mul]
  show pwM fP 256 2 fI * pwM fP 256 2 fI % fP = _
  rw [root_neg]
  decide
/-- A point. -/
structure Pt where
  x : Fp
  y : Fp
theorem Pt.ext {p q : Pt} (h1 : p.x = q.x) (h2 : p.y = q.y) : p = q := by cases p; cases q; cases h1; cases h2; rfl
def OnC (p : Pt) : Prop := p.y * p.y - p.x * p.x = 1 + cD * p.x * p.x * p.y * p.y
/-- d px qx py qy. -/
def tee (p q : Pt) : Fp := cD * p.x * q.x * p.y * q.y
theorem one_ne : (1 : Fp) ≠ 0 := by decide
theorem two_ne : (2 : Fp) ≠ 0 := by decide
theorem tee_gen (d i x1 y1 x2 y2 e : Fp) (hi : i * i = -1) (e1 : y1 * y1 - x1 * x1 = 1 + d * x1 * x1 * y1 * y1) (e2 : y2 * y2 - x2 * x2 = 1 + d * x2 * x2 * y2 * y2) (he : d * x1 * x2 * y1 * y2 = e) (hee : e * e = 1) :
    (y1 + e * i * x1) * (y1 + e * i * x1) = d * ((x1 * y1 * (y2 + i * x2)) * (x1 * y1 * (y2 + i * x2))) ∧ (y1 - e * i * x1) * (y1 - e * i * x1) = d * ((x1 * y1 * (y2 - i * x2)) * (x1 * y1 * (y2 - i * x2))) := by
  constructor <;> grind
/-- The divisors are never 0. -/
theorem tee_ne {p q : Pt} (hp : OnC p) (hq : OnC q) : tee p q * tee p q ≠ 1 := fun h => by
  have g := tee_gen cD cI p.x p.y q.x q.y (tee p q) cI_sq hp hq rfl h
  have hx : p.x ≠ 0 := fun e => one_ne (by rw [← h]; unfold tee; rw [e]; grind)
  have hy : p.y ≠ 0 := fun e => one_ne (by rw [← h]; unfold tee; rw [e]; grind)
  have hqx : q.x ≠ 0 := fun e => one_ne (by rw [← h]; unfold tee; rw [e]; grind)
  have hxy := fp_mul_ne hx hy
  have hI : cI ≠ 0 := fun e => one_ne (by have := cI_sq; rw [e] at this; grind)
  by_cases h1 : q.y + cI * q.x = 0
  · by_cases h2 : q.y - cI * q.x = 0
    · have h3 : 2 * (cI * q.x) = 0 := by grind
      exact fp_mul_ne two_ne (fp_mul_ne hI hqx) h3
    · exact cD_no (fp_mul_ne hxy h2) g.2
  · exact cD_no (fp_mul_ne hxy h1) g.1
theorem plus_ne {p q : Pt} (hp : OnC p) (hq : OnC q) : 1 + tee p q ≠ 0 := fun h => tee_ne hp hq (by grind)
theorem minus_ne {p q : Pt} (hp : OnC p) (hq : OnC q) : 1 - tee p q ≠ 0 := fun h => tee_ne hp hq (by grind)
/-- r is the sum of p and q. -/
structure SumIs (p q r : Pt) : Prop where
  x : r.x * (1 + tee p q) = p.x * q.y + p.y * q.x
  y : r.y * (1 - tee p q) = p.y * q.y + p.x * q.x
theorem sum_one {p q r s : Pt} (hp : OnC p) (hq : OnC q) (h1 : SumIs p q r) (h2 : SumIs p q s) : r = s :=
  Pt.ext (fp_cancel (plus_ne hp hq) (by have := h1.x; have := h2.x; grind)) (fp_cancel (minus_ne hp hq) (by have := h1.y; have := h2.y; grind))
theorem sum_comm {p q r : Pt} (h : SumIs p q r) : SumIs q p r := by
  have h1 := h.x
  have h2 := h.y
  constructor <;> (unfold tee at *; grind)
theorem on_gen (d x1 y1 x2 y2 : Fp) (e1 : y1 * y1 - x1 * x1 = 1 + d * x1 * x1 * y1 * y1) (e2 : y2 * y2 - x2 * x2 = 1 + d * x2 * x2 * y2 * y2) :
    (y1 * y2 + x1 * x2) * (y1 * y2 + x1 * x2) * (1 + d * x1 * x2 * y1 * y2) * (1 + d * x1 * x2 * y1 * y2) - (x1 * y2 + y1 * x2) * (x1 * y2 + y1 * x2) * (1 - d * x1 * x2 * y1 * y2) * (1 - d * x1 * x2 * y1 * y2) = (1 + d * x1 * x2 * y1 * y2) * (1 + d * x1 * x2 * y1 * y2) * (1 - d * x1 * x2 * y1 * y2) * (1 - d * x1 * x2 * y1 * y2) + d * (x1 * y2 + y1 * x2) * (x1 * y2 + y1 * x2) * (y1 * y2 + x1 * x2) * (y1 * y2 + x1 * x2) := by grind
theorem clear_on (d X Y a b A B : Fp) (hX : X * a = A) (hY : Y * b = B) (h : B * B * a * a - A * A * b * b = a * a * b * b + d * A * A * B * B) : (a * a * b * b) * (Y * Y - X * X) = (a * a * b * b) * (1 + d * X * X * Y * Y) := by
  subst hX hY
  grind
/-- A sum is on the curve. -/
theorem sum_on {p q r : Pt} (hp : OnC p) (hq : OnC q) (h : SumIs p q r) : OnC r := by
  have g := on_gen cD p.x p.y q.x q.y hp hq
  have h1 := plus_ne hp hq
  have h2 := minus_ne hp hq
  exact fp_cancel (fp_mul_ne (fp_mul_ne (fp_mul_ne h1 h1) h2) h2) (clear_on cD r.x r.y _ _ _ _ h.x h.y g)
theorem assoc_x (d x1 y1 x2 y2 x3 y3 : Fp) (e1 : y1 * y1 - x1 * x1 = 1 + d * x1 * x1 * y1 * y1) (e2 : y2 * y2 - x2 * x2 = 1 + d * x2 * x2 * y2 * y2) (e3 : y3 * y3 - x3 * x3 = 1 + d * x3 * x3 * y3 * y3) :
    ((x1 * y2 + y1 * x2) * (1 - d * x1 * x2 * y1 * y2) * y3 + (y1 * y2 + x1 * x2) * (1 + d * x1 * x2 * y1 * y2) * x3) * ((1 + d * x2 * x3 * y2 * y3) * (1 - d * x2 * x3 * y2 * y3) + d * (x2 * y3 + y2 * x3) * (y2 * y3 + x2 * x3) * x1 * y1)
      = (x1 * (y2 * y3 + x2 * x3) * (1 + d * x2 * x3 * y2 * y3) + y1 * (x2 * y3 + y2 * x3) * (1 - d * x2 * x3 * y2 * y3)) * ((1 + d * x1 * x2 * y1 * y2) * (1 - d * x1 * x2 * y1 * y2) + d * (x1 * y2 + y1 * x2) * (y1 * y2 + x1 * x2) * x3 * y3) := by grind
theorem assoc_y (d x1 y1 x2 y2 x3 y3 : Fp) (e1 : y1 * y1 - x1 * x1 = 1 + d * x1 * x1 * y1 * y1) (e2 : y2 * y2 - x2 * x2 = 1 + d * x2 * x2 * y2 * y2) (e3 : y3 * y3 - x3 * x3 = 1 + d * x3 * x3 * y3 * y3) :
    ((y1 * y2 + x1 * x2) * (1 + d * x1 * x2 * y1 * y2) * y3 + (x1 * y2 + y1 * x2) * (1 - d * x1 * x2 * y1 * y2) * x3) * ((1 + d * x2 * x3 * y2 * y3) * (1 - d * x2 * x3 * y2 * y3) - d * (x2 * y3 + y2 * x3) * (y2 * y3 + x2 * x3) * x1 * y1)
      = (y1 * (y2 * y3 + x2 * x3) * (1 + d * x2 * x3 * y2 * y3) + x1 * (x2 * y3 + y2 * x3) * (1 - d * x2 * x3 * y2 * y3)) * ((1 + d * x1 * x2 * y1 * y2) * (1 - d * x1 * x2 * y1 * y2) - d * (x1 * y2 + y1 * x2) * (y1 * y2 + x1 * x2) * x3 * y3) := by grind
end Go.Proofs.YtgofapndgjfnhaaDoor.N
