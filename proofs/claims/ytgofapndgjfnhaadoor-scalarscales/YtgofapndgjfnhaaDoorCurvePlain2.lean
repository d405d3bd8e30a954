/-
  Layer 17, in plain words: points are a group; so many times a point.
-/
import Derived.Test.YtgofapndgjfnhaaDoorCurvePlain
namespace Go.Proofs.YtgofapndgjfnhaaDoor.N
set_option linter.unusedVariables false
set_option maxRecDepth 8192

theorem cross {X U V X' U' V' : Fp} (h : X * U = V) (h' : X' * U' = V') (hc : V * U' = V' * U) : (U * U') * X = (U * U') * X' := by
  subst h h'
  grind
theorem left_x (d ax ay rx ry a b A B X : Fp) (hx : ax * a = A) (hy : ay * b = B) (h : X * (1 + d * ax * rx * ay * ry) = ax * ry + ay * rx) : X * (a * b * (1 + d * ax * rx * ay * ry)) = A * b * ry + B * a * rx ∧ a * b * (1 + d * ax * rx * ay * ry) = a * b + d * A * B * rx * ry := by
  subst hx hy
  constructor <;> grind
theorem left_y (d ax ay rx ry a b A B Y : Fp) (hx : ax * a = A) (hy : ay * b = B) (h : Y * (1 - d * ax * rx * ay * ry) = ay * ry + ax * rx) : Y * (a * b * (1 - d * ax * rx * ay * ry)) = B * a * ry + A * b * rx ∧ a * b * (1 - d * ax * rx * ay * ry) = a * b - d * A * B * rx * ry := by
  subst hx hy
  constructor <;> grind
theorem right_x (d px py cx cy a b A B X : Fp) (hx : cx * a = A) (hy : cy * b = B) (h : X * (1 + d * px * cx * py * cy) = px * cy + py * cx) : X * (a * b * (1 + d * px * cx * py * cy)) = px * B * a + py * A * b ∧ a * b * (1 + d * px * cx * py * cy) = a * b + d * A * B * px * py := by
  subst hx hy
  constructor <;> grind
theorem right_y (d px py cx cy a b A B Y : Fp) (hx : cx * a = A) (hy : cy * b = B) (h : Y * (1 - d * px * cx * py * cy) = py * cy + px * cx) : Y * (a * b * (1 - d * px * cx * py * cy)) = py * B * a + px * A * b ∧ a * b * (1 - d * px * cx * py * cy) = a * b - d * A * B * px * py := by
  subst hx hy
  constructor <;> grind
/-- Sums hang on no grouping. -/
theorem sum_assoc {p q r a b c e : Pt} (hp : OnC p) (hq : OnC q) (hr : OnC r) (h1 : SumIs p q a) (h2 : SumIs a r b) (h3 : SumIs q r c) (h4 : SumIs p c e) : b = e := by
  have ha := sum_on hp hq h1
  have hc := sum_on hq hr h3
  have n1 := plus_ne hp hq
  have n2 := minus_ne hp hq
  have n3 := plus_ne hq hr
  have n4 := minus_ne hq hr
  have gx := assoc_x cD p.x p.y q.x q.y r.x r.y hp hq hr
  have gy := assoc_y cD p.x p.y q.x q.y r.x r.y hp hq hr
  have lx := left_x cD a.x a.y r.x r.y _ _ _ _ b.x h1.x h1.y h2.x
  have ly := left_y cD a.x a.y r.x r.y _ _ _ _ b.y h1.x h1.y h2.y
  have rx := right_x cD p.x p.y c.x c.y _ _ _ _ e.x h3.x h3.y h4.x
  have ry := right_y cD p.x p.y c.x c.y _ _ _ _ e.y h3.x h3.y h4.y
  have ux : (1 + tee p q) * (1 - tee p q) * (1 + tee a r) ≠ 0 := fp_mul_ne (fp_mul_ne n1 n2) (plus_ne ha hr)
  have uy : (1 + tee p q) * (1 - tee p q) * (1 - tee a r) ≠ 0 := fp_mul_ne (fp_mul_ne n1 n2) (minus_ne ha hr)
  have vx : (1 + tee q r) * (1 - tee q r) * (1 + tee p c) ≠ 0 := fp_mul_ne (fp_mul_ne n3 n4) (plus_ne hp hc)
  have vy : (1 + tee q r) * (1 - tee q r) * (1 - tee p c) ≠ 0 := fp_mul_ne (fp_mul_ne n3 n4) (minus_ne hp hc)
  refine Pt.ext (fp_cancel (fp_mul_ne ux vx) (cross lx.1 rx.1 ?_)) (fp_cancel (fp_mul_ne uy vy) (cross ly.1 ry.1 ?_))
  · have l2 : (1 + tee p q) * (1 - tee p q) * (1 + tee a r) = _ := lx.2
    have r2 : (1 + tee q r) * (1 - tee q r) * (1 + tee p c) = _ := rx.2
    rw [l2, r2]
    exact gx
  · have l2 : (1 + tee p q) * (1 - tee p q) * (1 - tee a r) = _ := ly.2
    have r2 : (1 + tee q r) * (1 - tee q r) * (1 - tee p c) = _ := ry.2
    rw [l2, r2]
    exact gy
/-- An inverse (of what is not 0). -/
def finv (a : Fp) : Fp := ⟨pwM fP 256 a.val (fP - 2) % fP, mod_fP _⟩
theorem finv_mul {a : Fp} (h : a ≠ 0) : a * finv a = 1 := by
  apply Fin.ext
  rw [fp_mul]
  show a.val * (pwM fP 256 a.val (fP - 2) % fP) % fP = _
  rw [pwM_eq fP 256 a.val (fP - 2) (by decide), Nat.mod_mod, inv_mul a.val (by rw [Nat.mod_eq_of_lt a.isLt]; exact fun e => h (Fin.ext e))]
  rfl
def psum (p q : Pt) : Pt := ⟨(p.x * q.y + p.y * q.x) * finv (1 + tee p q), (p.y * q.y + p.x * q.x) * finv (1 - tee p q)⟩
theorem mul_back {A a i : Fp} (h : a * i = 1) : A * i * a = A := by grind
theorem psum_is {p q : Pt} (hp : OnC p) (hq : OnC q) : SumIs p q (psum p q) :=
  ⟨mul_back (finv_mul (plus_ne hp hq)), mul_back (finv_mul (minus_ne hp hq))⟩
theorem psum_on {p q : Pt} (hp : OnC p) (hq : OnC q) : OnC (psum p q) := sum_on hp hq (psum_is hp hq)
theorem psum_of {p q r : Pt} (hp : OnC p) (hq : OnC q) (h : SumIs p q r) : r = psum p q := sum_one hp hq h (psum_is hp hq)
theorem psum_comm {p q : Pt} (hp : OnC p) (hq : OnC q) : psum p q = psum q p := psum_of hq hp (sum_comm (psum_is hp hq))
theorem psum_assoc {p q r : Pt} (hp : OnC p) (hq : OnC q) (hr : OnC r) : psum (psum p q) r = psum p (psum q r) :=
  sum_assoc hp hq hr (psum_is hp hq) (psum_is (psum_on hp hq) hr) (psum_is hq hr) (psum_is hp (psum_on hq hr))
def pzero : Pt := ⟨0, 1⟩
def pneg (p : Pt) : Pt := ⟨-p.x, p.y⟩
theorem pzero_on : OnC pzero := by unfold OnC pzero; grind
theorem pneg_on {p : Pt} (h : OnC p) : OnC (pneg p) := by unfold OnC pneg at *; grind
theorem psum_zero {p : Pt} (h : OnC p) : psum p pzero = p := by
  refine (psum_of h pzero_on ⟨?_, ?_⟩).symm <;> (unfold tee pzero; grind)
theorem psum_neg {p : Pt} (h : OnC p) : psum p (pneg p) = pzero := by
  refine (psum_of h (pneg_on h) ⟨?_, ?_⟩).symm
  · unfold tee pneg pzero; grind
  · unfold OnC at h; unfold tee pneg pzero; grind
/-- So many times a point. -/
def ptimes : Nat → Pt → Pt
  | 0, _ => pzero
  | n + 1, p => psum (ptimes n p) p
theorem ptimes_on {p : Pt} (h : OnC p) (n : Nat) : OnC (ptimes n p) := by
  induction n with
  | zero => exact pzero_on
  | succ n ih => exact psum_on ih h
theorem ptimes_add {p : Pt} (h : OnC p) (m n : Nat) : ptimes (m + n) p = psum (ptimes m p) (ptimes n p) := by
  induction n with
  | zero => exact (psum_zero (ptimes_on h m)).symm
  | succ n ih =>
    show psum (ptimes (m + n) p) p = psum (ptimes m p) (psum (ptimes n p) p)
    rw [ih, psum_assoc (ptimes_on h m) (ptimes_on h n) h]
theorem ptimes_mul {p : Pt} (h : OnC p) (m n : Nat) : ptimes (m * n) p = ptimes n (ptimes m p) := by
  induction n with
  | zero => rfl
  | succ n ih =>
    rw [Nat.mul_succ, ptimes_add h, ih]
    rfl
theorem ptimes_one {p : Pt} (h : OnC p) : ptimes 1 p = p := by
  show psum pzero p = p
  rw [psum_comm pzero_on h, psum_zero h]
theorem ptimes_zero (n : Nat) : ptimes n pzero = pzero := by
  induction n with
  | zero => rfl
  | succ n ih =>
    show psum (ptimes n pzero) pzero = pzero
    rw [ih, psum_zero pzero_on]
end Go.Proofs.YtgofapndgjfnhaaDoor.N
