/-
 Layer 17, in plain words: the curve's points: divisors are never 0, sums are on the curve, hang on no order and no grouping.
-/
import Derived.Test.YthangiocheodoaaGreatDoorPackFa
import Derived.Test.YthangiocheodoaaGreatDoorPackNa
namespace Go.Proofs.YthangiocheodoaaGreatDoor.N
set_option linter.unusedVariables false
set_option maxRecDepth 8192

instance neZeroP : NeZero fP := ⟨by decide⟩
/-- Numbers below p, taken round. -/
abbrev Fp := Fin fP
theorem fp_mul (a b : Fp) : (a * b).val = a.val * b.val % fP := Fin.val_mul a b
theorem fp_add (a b : Fp) : (a + b).val = (a.val + b.val) % fP := Fin.val_add a b
theorem fp_zero : (0 : Fp).val = 0 := rfl
theorem fp_mul_zero {a b : Fp} (h : a * b = 0) : a = 0 ∨ b = 0 := by
 have h1 := congrArg Fin.val h
 rw [fp_mul, fp_zero] at h1
 rcases (mul_zero_iff _ _).1 h1 with h2 | h2
 ·left; apply Fin.ext; rw [Nat.mod_eq_of_lt a.isLt] at h2; exact h2
 ·right; apply Fin.ext; rw [Nat.mod_eq_of_lt b.isLt] at h2; exact h2
theorem fp_mul_ne {a b : Fp} (ha : a ≠ 0) (hb : b ≠ 0) : a * b ≠ 0 := fun h => (fp_mul_zero h).elim ha hb
theorem fp_cancel {a b c : Fp} (h : a ≠ 0) (e : a * b = a * c) : b = c := by
 have h1 : a * (b - c) = 0 := by grind
 rcases fp_mul_zero h1 with h2 | h2
 ·exact absurd h2 h
 ·grind
/-- The curve's number. -/
def dN : Nat := 37095705934669439343138083508754565189542113879843219016388785533085940283555
theorem dN_lt : dN < fP := by decide
theorem dN_is : 121666 * dN % fP = fP - 121665 := by decide
def cD : Fp := ⟨dN, dN_lt⟩
theorem dN_half : pwM fP 256 dN ((fP - 1) / 2) = fP - 1 := by decide +kernel
theorem dN_no : ¬ HasRoot dN := fun h => by
 have h1 := euler (by decide) h
 rw [← pwM_eq fP 256 dN ((fP - 1) / 2) (by decide), dN_half] at h1
 exact absurd h1 (by decide)
/-- No square is the curve's number times a square that is not 0. -/
theorem cD_no {u v : Fp} (hv : v ≠ 0) : u * u ≠ cD * (v * v) := fun h => by
 have hv1 : v.val % fP ≠ 0 := by
  rw [Nat.mod_eq_of_lt v.isLt]
  exact fun e => hv (Fin.ext e)
 -- u divided by v
 have hi := inv_mul v.val hv1
 generalize v.val ^ (fP - 2) % fP = i at hi
 apply dN_no
 refine ⟨u.val * i, ?_⟩
 have h1 := congrArg Fin.val h
 rw [fp_mul, fp_mul, fp_mul] at h1
 have h2 : cD.val = dN := rfl
 rw [h2] at h1
 have e1 : u.val * i * (u.val * i) = (u.val * u.val) * (i * i) := by rw [Nat.mul_mul_mul_comm]
 rw [e1, Nat.mul_mod, h1, Nat.mul_mod dN, Nat.mod_mod, ← Nat.mul_mod dN, ← Nat.mul_mod, Nat.mul_assoc, Nat.mul_mul_mul_comm v.val v.val i i, Nat.mul_mod, Nat.mul_mod (v.val * i) (v.val * i), hi]
 rw [Nat.one_mul, Nat.mod_eq_of_lt fP_one, Nat.mul_one, Nat.mod_mod]
/-- A root of -1. -/
def cI : Fp := ⟨pwM fP 256 2 fI, by rw [fI_pow]; exact mod_fP _⟩
theorem cI_sq : cI * cI = -1 := by
 apply Fin.ext
 rw [fp_mul]
 show pwM fP 256 2 fI * pwM fP 256 2 fI % fP = _
 rw [root_neg]
 decide
/-- A point. -/
structure Pt where
 x : Fp
 y : Fp
theorem Pt.ext {p q : Pt} (h1 : p.x = q.x) (h2 : p.y = q.y) : p = q := by cases p; cases q; cases h1; cases h2; rfl
def OnC (p : Pt) : Prop := p.y * p.y - p.x * p.x = 1 + cD * p.x * p.x * p.y * p.y
/-- d px qx py qy. -/
def tee (p q : Pt) : Fp := cD * p.x * q.x * p.y * q.y
theorem one_ne : (1 : Fp) ≠ 0 := by decide
theorem two_ne : (2 : Fp) ≠ 0 := by decide
theorem tee_gen (d i x1 y1 x2 y2 e : Fp) (hi : i * i = -1) (e1 : y1 * y1 - x1 * x1 = 1 + d * x1 * x1 * y1 * y1) (e2 : y2 * y2 - x2 * x2 = 1 + d * x2 * x2 * y2 * y2) (he : d * x1 * x2 * y1 * y2 = e) (hee : e * e = 1) :
  (y1 + e * i * x1) * (y1 + e * i * x1) = d * ((x1 * y1 * (y2 + i * x2)) * (x1 * y1 * (y2 + i * x2))) ∧ (y1 - e * i * x1) * (y1 - e * i * x1) = d * ((x1 * y1 * (y2 - i * x2)) * (x1 * y1 * (y2 - i * x2))) := by
 constructor <;> grind
/-- The divisors are never 0. -/
theorem tee_ne {p q : Pt} (hp : OnC p) (hq : OnC q) : tee p q * tee p q ≠ 1 := fun h => by
 have g := tee_gen cD cI p.x p.y q.x q.y (tee p q) cI_sq hp hq rfl h
 have hx : p.x ≠ 0 := fun e => one_ne (by rw [← h]; unfold tee; rw [e]; grind)
 have hy : p.y ≠ 0 := fun e => one_ne (by rw [← h]; unfold tee; rw [e]; grind)
 have hqx : q.x ≠ 0 := fun e => one_ne (by rw [← h]; unfold tee; rw [e]; grind)
 have hxy := fp_mul_ne hx hy
 have hI : cI ≠ 0 := fun e => one_ne (by have := cI_sq; rw [e] at this; grind)
 by_cases h1 : q.y + cI * q.x = 0
 ·by_cases h2 : q.y - cI * q.x = 0
  ·have h3 : 2 * (cI * q.x) = 0 := by grind
   exact fp_mul_ne two_ne (fp_mul_ne hI hqx) h3
  ·exact cD_no (fp_mul_ne hxy h2) g.2
 ·exact cD_no (fp_mul_ne hxy h1) g.1
theorem plus_ne {p q : Pt} (hp : OnC p) (hq : OnC q) : 1 + tee p q ≠ 0 := fun h => tee_ne hp hq (by grind)
theorem minus_ne {p q : Pt} (hp : OnC p) (hq : OnC q) : 1 - tee p q ≠ 0 := fun h => tee_ne hp hq (by grind)
/-- r is the sum of p and q. -/
structure SumIs (p q r : Pt) : Prop where
 x : r.x * (1 + tee p q) = p.x * q.y + p.y * q.x
 y : r.y * (1 - tee p q) = p.y * q.y + p.x * q.x
theorem sum_one {p q r s : Pt} (hp : OnC p) (hq : OnC q) (h1 : SumIs p q r) (h2 : SumIs p q s) : r = s :=
 Pt.ext (fp_cancel (plus_ne hp hq) (by have := h1.x; have := h2.x; grind)) (fp_cancel (minus_ne hp hq) (by have := h1.y; have := h2.y; grind))
theorem sum_comm {p q r : Pt} (h : SumIs p q r) : SumIs q p r := by
 have h1 := h.x
 have h2 := h.y
 constructor <;> (unfold tee at *; grind)
theorem on_gen (d x1 y1 x2 y2 : Fp) (e1 : y1 * y1 - x1 * x1 = 1 + d * x1 * x1 * y1 * y1) (e2 : y2 * y2 - x2 * x2 = 1 + d * x2 * x2 * y2 * y2) :
  (y1 * y2 + x1 * x2) * (y1 * y2 + x1 * x2) * (1 + d * x1 * x2 * y1 * y2) * (1 + d * x1 * x2 * y1 * y2) - (x1 * y2 + y1 * x2) * (x1 * y2 + y1 * x2) * (1 - d * x1 * x2 * y1 * y2) * (1 - d * x1 * x2 * y1 * y2) = (1 + d * x1 * x2 * y1 * y2) * (1 + d * x1 * x2 * y1 * y2) * (1 - d * x1 * x2 * y1 * y2) * (1 - d * x1 * x2 * y1 * y2) + d * (x1 * y2 + y1 * x2) * (x1 * y2 + y1 * x2) * (y1 * y2 + x1 * x2) * (y1 * y2 + x1 * x2) := by grind
theorem clear_on (d X Y a b A B : Fp) (hX : X * a = A) (hY : Y * b = B) (h : B * B * a * a - A * A * b * b = a * a * b * b + d * A * A * B * B) : (a * a * b * b) * (Y * Y - X * X) = (a * a * b * b) * (1 + d * X * X * Y * Y) := by
 subst hX hY
 grind
/-- A sum is on the curve. -/
theorem sum_on {p q r : Pt} (hp : OnC p) (hq : OnC q) (h : SumIs p q r) : OnC r := by
 have g := on_gen cD p.x p.y q.x q.y hp hq
 have h1 := plus_ne hp hq
 have h2 := minus_ne hp hq
 exact fp_cancel (fp_mul_ne (fp_mul_ne (fp_mul_ne h1 h1) h2) h2) (clear_on cD r.x r.y _ _ _ _ h.x h.y g)
theorem assoc_x (d x1 y1 x2 y2 x3 y3 : Fp) (e1 : y1 * y1 - x1 * x1 = 1 + d * x1 * x1 * y1 * y1) (e2 : y2 * y2 - x2 * x2 = 1 + d * x2 * x2 * y2 * y2) (e3 : y3 * y3 - x3 * x3 = 1 + d * x3 * x3 * y3 * y3) :
  ((x1 * y2 + y1 * x2) * (1 - d * x1 * x2 * y1 * y2) * y3 + (y1 * y2 + x1 * x2) * (1 + d * x1 * x2 * y1 * y2) * x3) * ((1 + d * x2 * x3 * y2 * y3) * (1 - d * x2 * x3 * y2 * y3) + d * (x2 * y3 + y2 * x3) * (y2 * y3 + x2 * x3) * x1 * y1)
   = (x1 * (y2 * y3 + x2 * x3) * (1 + d * x2 * x3 * y2 * y3) + y1 * (x2 * y3 + y2 * x3) * (1 - d * x2 * x3 * y2 * y3)) * ((1 + d * x1 * x2 * y1 * y2) * (1 - d * x1 * x2 * y1 * y2) + d * (x1 * y2 + y1 * x2) * (y1 * y2 + x1 * x2) * x3 * y3) := by grind
theorem assoc_y (d x1 y1 x2 y2 x3 y3 : Fp) (e1 : y1 * y1 - x1 * x1 = 1 + d * x1 * x1 * y1 * y1) (e2 : y2 * y2 - x2 * x2 = 1 + d * x2 * x2 * y2 * y2) (e3 : y3 * y3 - x3 * x3 = 1 + d * x3 * x3 * y3 * y3) :
  ((y1 * y2 + x1 * x2) * (1 + d * x1 * x2 * y1 * y2) * y3 + (x1 * y2 + y1 * x2) * (1 - d * x1 * x2 * y1 * y2) * x3) * ((1 + d * x2 * x3 * y2 * y3) * (1 - d * x2 * x3 * y2 * y3) - d * (x2 * y3 + y2 * x3) * (y2 * y3 + x2 * x3) * x1 * y1)
   = (y1 * (y2 * y3 + x2 * x3) * (1 + d * x2 * x3 * y2 * y3) + x1 * (x2 * y3 + y2 * x3) * (1 - d * x2 * x3 * y2 * y3)) * ((1 + d * x1 * x2 * y1 * y2) * (1 - d * x1 * x2 * y1 * y2) - d * (x1 * y2 + y1 * x2) * (y1 * y2 + x1 * x2) * x3 * y3) := by grind
end Go.Proofs.YthangiocheodoaaGreatDoor.N

/-
 Layer 17, in plain words: points are a group; so many times a point.
-/
namespace Go.Proofs.YthangiocheodoaaGreatDoor.N
set_option linter.unusedVariables false
set_option maxRecDepth 8192

theorem cross {X U V X' U' V' : Fp} (h : X * U = V) (h' : X' * U' = V') (hc : V * U' = V' * U) : (U * U') * X = (U * U') * X' := by
 subst h h'
 grind
theorem left_x (d ax ay rx ry a b A B X : Fp) (hx : ax * a = A) (hy : ay * b = B) (h : X * (1 + d * ax * rx * ay * ry) = ax * ry + ay * rx) : X * (a * b * (1 + d * ax * rx * ay * ry)) = A * b * ry + B * a * rx ∧ a * b * (1 + d * ax * rx * ay * ry) = a * b + d * A * B * rx * ry := by
 subst hx hy
 constructor <;> grind
theorem left_y (d ax ay rx ry a b A B Y : Fp) (hx : ax * a = A) (hy : ay * b = B) (h : Y * (1 - d * ax * rx * ay * ry) = ay * ry + ax * rx) : Y * (a * b * (1 - d * ax * rx * ay * ry)) = B * a * ry + A * b * rx ∧ a * b * (1 - d * ax * rx * ay * ry) = a * b - d * A * B * rx * ry := by
 subst hx hy
 constructor <;> grind
theorem right_x (d px py cx cy a b A B X : Fp) (hx : cx * a = A) (hy : cy * b = B) (h : X * (1 + d * px * cx * py * cy) = px * cy + py * cx) : X * (a * b * (1 + d * px * cx * py * cy)) = px * B * a + py * A * b ∧ a * b * (1 + d * px * cx * py * cy) = a * b + d * A * B * px * py := by
 subst hx hy
 constructor <;> grind
theorem right_y (d px py cx cy a b A B Y : Fp) (hx : cx * a = A) (hy : cy * b = B) (h : Y * (1 - d * px * cx * py * cy) = py * cy + px * cx) : Y * (a * b * (1 - d * px * cx * py * cy)) = py * B * a + px * A * b ∧ a * b * (1 - d * px * cx * py * cy) = a * b - d * A * B * px * py := by
 subst hx hy
 constructor <;> grind
/-- Sums hang on no grouping. -/
theorem sum_assoc {p q r a b c e : Pt} (hp : OnC p) (hq : OnC q) (hr : OnC r) (h1 : SumIs p q a) (h2 : SumIs a r b) (h3 : SumIs q r c) (h4 : SumIs p c e) : b = e := by
 have ha := sum_on hp hq h1
 have hc := sum_on hq hr h3
 have n1 := plus_ne hp hq
 have n2 := minus_ne hp hq
 have n3 := plus_ne hq hr
 have n4 := minus_ne hq hr
 have gx := assoc_x cD p.x p.y q.x q.y r.x r.y hp hq hr
 have gy := assoc_y cD p.x p.y q.x q.y r.x r.y hp hq hr
 have lx := left_x cD a.x a.y r.x r.y _ _ _ _ b.x h1.x h1.y h2.x
 have ly := left_y cD a.x a.y r.x r.y _ _ _ _ b.y h1.x h1.y h2.y
 have rx := right_x cD p.x p.y c.x c.y _ _ _ _ e.x h3.x h3.y h4.x
 have ry := right_y cD p.x p.y c.x c.y _ _ _ _ e.y h3.x h3.y h4.y
 have ux : (1 + tee p q) * (1 - tee p q) * (1 + tee a r) ≠ 0 := fp_mul_ne (fp_mul_ne n1 n2) (plus_ne ha hr)
 have uy : (1 + tee p q) * (1 - tee p q) * (1 - tee a r) ≠ 0 := fp_mul_ne (fp_mul_ne n1 n2) (minus_ne ha hr)
 have vx : (1 + tee q r) * (1 - tee q r) * (1 + tee p c) ≠ 0 := fp_mul_ne (fp_mul_ne n3 n4) (plus_ne hp hc)
 have vy : (1 + tee q r) * (1 - tee q r) * (1 - tee p c) ≠ 0 := fp_mul_ne (fp_mul_ne n3 n4) (minus_ne hp hc)
 refine Pt.ext (fp_cancel (fp_mul_ne ux vx) (cross lx.1 rx.1 ?_)) (fp_cancel (fp_mul_ne uy vy) (cross ly.1 ry.1 ?_))
 ·have l2 : (1 + tee p q) * (1 - tee p q) * (1 + tee a r) = _ := lx.2
  have r2 : (1 + tee q r) * (1 - tee q r) * (1 + tee p c) = _ := rx.2
  rw [l2, r2]
  exact gx
 ·have l2 : (1 + tee p q) * (1 - tee p q) * (1 - tee a r) = _ := ly.2
  have r2 : (1 + tee q r) * (1 - tee q r) * (1 - tee p c) = _ := ry.2
  rw [l2, r2]
  exact gy
/-- An inverse (of what is not 0). -/
def finv (a : Fp) : Fp := ⟨pwM fP 256 a.val (fP - 2) % fP, mod_fP _⟩
theorem finv_mul {a : Fp} (h : a ≠ 0) : a * finv a = 1 := by
 apply Fin.ext
 rw [fp_mul]
 show a.val * (pwM fP 256 a.val (fP - 2) % fP) % fP = _
 rw [pwM_eq fP 256 a.val (fP - 2) (by decide), Nat.mod_mod, inv_mul a.val (by rw [Nat.mod_eq_of_lt a.isLt]; exact fun e => h (Fin.ext e))]
 rfl
def psum (p q : Pt) : Pt := ⟨(p.x * q.y + p.y * q.x) * finv (1 + tee p q), (p.y * q.y + p.x * q.x) * finv (1 - tee p q)⟩
theorem mul_back {A a i : Fp} (h : a * i = 1) : A * i * a = A := by grind
theorem psum_is {p q : Pt} (hp : OnC p) (hq : OnC q) : SumIs p q (psum p q) :=
 ⟨mul_back (finv_mul (plus_ne hp hq)), mul_back (finv_mul (minus_ne hp hq))⟩
theorem psum_on {p q : Pt} (hp : OnC p) (hq : OnC q) : OnC (psum p q) := sum_on hp hq (psum_is hp hq)
theorem psum_of {p q r : Pt} (hp : OnC p) (hq : OnC q) (h : SumIs p q r) : r = psum p q := sum_one hp hq h (psum_is hp hq)
theorem psum_comm {p q : Pt} (hp : OnC p) (hq : OnC q) : psum p q = psum q p := psum_of hq hp (sum_comm (psum_is hp hq))
theorem psum_assoc {p q r : Pt} (hp : OnC p) (hq : OnC q) (hr : OnC r) : psum (psum p q) r = psum p (psum q r) :=
 sum_assoc hp hq hr (psum_is hp hq) (psum_is (psum_on hp hq) hr) (psum_is hq hr) (psum_is hp (psum_on hq hr))
def pzero : Pt := ⟨0, 1⟩
def pneg (p : Pt) : Pt := ⟨-p.x, p.y⟩
theorem pzero_on : OnC pzero := by unfold OnC pzero; grind
theorem pneg_on {p : Pt} (h : OnC p) : OnC (pneg p) := by unfold OnC pneg at *; grind
theorem psum_zero {p : Pt} (h : OnC p) : psum p pzero = p := by
 refine (psum_of h pzero_on ⟨?_, ?_⟩).symm <;> (unfold tee pzero; grind)
/-- So many times a point. -/
def ptimes : Nat → Pt → Pt
 | 0, _ => pzero
 | n + 1, p => psum (ptimes n p) p
theorem ptimes_on {p : Pt} (h : OnC p) (n : Nat) : OnC (ptimes n p) := by
 induction n with
 | zero => exact pzero_on
 | succ n ih => exact psum_on ih h
theorem ptimes_add {p : Pt} (h : OnC p) (m n : Nat) : ptimes (m + n) p = psum (ptimes m p) (ptimes n p) := by
 induction n with
 | zero => exact (psum_zero (ptimes_on h m)).symm
 | succ n ih =>
  show psum (ptimes (m + n) p) p = psum (ptimes m p) (psum (ptimes n p) p)
  rw [ih, psum_assoc (ptimes_on h m) (ptimes_on h n) h]
theorem ptimes_mul {p : Pt} (h : OnC p) (m n : Nat) : ptimes (m * n) p = ptimes n (ptimes m p) := by
 induction n with
 | zero => rfl
 | succ n ih =>
  rw [Nat.mul_succ, ptimes_add h, ih]
  rfl
theorem ptimes_one {p : Pt} (h : OnC p) : ptimes 1 p = p := by
 show psum pzero p = p
 rw [psum_comm pzero_on h, psum_zero h]
theorem ptimes_zero (n : Nat) : ptimes n pzero = pzero := by
 induction n with
 | zero => rfl
 | succ n ih =>
  show psum (ptimes n pzero) pzero = pzero
  rw [ih, psum_zero pzero_on]
end Go.Proofs.YthangiocheodoaaGreatDoor.N

/-
 Layer 17, in plain words: which x makes a point of y; the base; what a sum undoes.
-/
namespace Go.Proofs.YthangiocheodoaaGreatDoor.N
set_option linter.unusedVariables false
set_option maxRecDepth 8192

theorem neg_one_add : (-1 : Fp) + 1 = 0 := by decide
theorem down_aux (i d y : Fp) (hi : i * i = -1) (h : 1 + d * y * y = 0) : i * i = d * (y * y) := by
 have h1 : i * i + 1 = 0 := by rw [hi]; exact neg_one_add
 have h2 : i * i + 1 = d * (y * y) + 1 := by rw [h1, ← h]; grind
 grind
/-- 1 and d y y is never 0. -/
theorem down_ne (y : Fp) : 1 + cD * y * y ≠ 0 := fun h => by
 have h3 : 1 + cD * (0 : Fp) * 0 = 1 := by rw [Fin.mul_zero, Fin.add_zero]
 have hy : y ≠ 0 := fun e => one_ne (by rw [e, h3] at h; exact h)
 exact cD_no (u := cI) (v := y) hy (down_aux cI cD y cI_sq h)
theorem on_iff (x y : Fp) : OnC ⟨x, y⟩ ↔ x * x * (1 + cD * y * y) = y * y - 1 := by
 unfold OnC
 constructor
 ·intro h; show x * x * (1 + cD * y * y) = y * y - 1; have h1 : y * y - x * x = 1 + cD * x * x * y * y := h; grind
 ·intro h; show y * y - x * x = 1 + cD * x * x * y * y; grind
/-- The x of a point is a root of (y y - 1) divided by (1 and d y y). -/
theorem on_root {x y s : Fp} (hs : s * (1 + cD * y * y) = y * y - 1) : OnC ⟨x, y⟩ ↔ x * x = s := by
 rw [on_iff]
 constructor
 ·intro h; exact fp_cancel (down_ne y) (by grind)
 ·intro h; rw [h]; exact hs
/-- The base. -/
def baseX : Nat := 15112221349535400772501151409588531511454012693041857206046113283949847762202
def baseY : Nat := 46316835694926478169428394003475163141307993866256225615783033603165251855960
theorem baseX_lt : baseX < fP := by decide
theorem baseY_lt : baseY < fP := by decide
theorem baseX_even : baseX % 2 = 0 := by decide
def pbase : Pt := ⟨⟨baseX, baseX_lt⟩, ⟨baseY, baseY_lt⟩⟩
theorem pbase_on : OnC pbase := by unfold OnC pbase; decide +kernel
end Go.Proofs.YthangiocheodoaaGreatDoor.N

/-
 Layer 17, in plain words: numbers taken round as Fp; points with a third number: their sum, doubled, so many times.
-/
namespace Go.Proofs.YthangiocheodoaaGreatDoor.N
set_option linter.unusedVariables false
set_option maxRecDepth 8192

theorem fp_sub (a b : Fp) : (a - b).val = (a.val + (fP - b.val)) % fP := by
 rw [Fin.sub_def, Nat.add_comm]
theorem finv_val (a : Fp) : (finv a).val = a.val ^ (fP - 2) % fP := by
 show pwM fP 256 a.val (fP - 2) % fP = _
 rw [pwM_eq fP 256 a.val (fP - 2) (by decide), Nat.mod_mod]
theorem fp_pos {a : Fp} (h : a ≠ 0) : a.val ≠ 0 := fun e => h (Fin.ext e)
/-- A point with a third number. -/
structure T3 where
 x : Fp
 y : Fp
 z : Fp
/-- What plus, doubled make. -/
def plus3 (p q : T3) : T3 :=
 ⟨p.z * q.z * (p.x * q.y + p.y * q.x) * (p.z * q.z * (p.z * q.z) - cD * (p.x * q.x * (p.y * q.y))),
  p.z * q.z * (p.y * q.y + p.x * q.x) * (p.z * q.z * (p.z * q.z) + cD * (p.x * q.x * (p.y * q.y))),
  (p.z * q.z * (p.z * q.z) + cD * (p.x * q.x * (p.y * q.y))) * (p.z * q.z * (p.z * q.z) - cD * (p.x * q.x * (p.y * q.y)))⟩
def dbl3 (p : T3) : T3 :=
 ⟨(p.x * p.y + p.x * p.y) * (p.z * p.z + p.z * p.z - (p.y * p.y - p.x * p.x)), (p.y * p.y + p.x * p.x) * (p.y * p.y - p.x * p.x), (p.y * p.y - p.x * p.x) * (p.z * p.z + p.z * p.z - (p.y * p.y - p.x * p.x))⟩
def after3 (o : T3) (b : Bool) (p : T3) : T3 := if b then plus3 (dbl3 o) p else dbl3 o
def zero3 : T3 := ⟨0, 1, 1⟩
/-- What comes of the upper j bits of v's T ones. -/
def run3 (p : T3) (v T : Nat) : Nat → T3
 | 0 => zero3
 | j + 1 => after3 (run3 p v T j) (decide (v / 2 ^ (T - (j + 1)) % 2 = 1)) p
/-- (X, Y, Z) stands for (X / Z, Y / Z). -/
structure Stands (t : T3) (p : Pt) : Prop where
 z : t.z ≠ 0
 x : t.x = p.x * t.z
 y : t.y = p.y * t.z
theorem plus_gen (d x1 y1 z1 x2 y2 z2 rx ry : Fp) (hx : rx * (1 + d * x1 * x2 * y1 * y2) = x1 * y2 + y1 * x2) (hy : ry * (1 - d * x1 * x2 * y1 * y2) = y1 * y2 + x1 * x2) :
  (z1 * z2 * (z1 * z2) + d * ((x1 * z1) * (x2 * z2) * ((y1 * z1) * (y2 * z2))) = z1 * z2 * (z1 * z2) * (1 + d * x1 * x2 * y1 * y2)) ∧
  (z1 * z2 * (z1 * z2) - d * ((x1 * z1) * (x2 * z2) * ((y1 * z1) * (y2 * z2))) = z1 * z2 * (z1 * z2) * (1 - d * x1 * x2 * y1 * y2)) ∧
  z1 * z2 * ((x1 * z1) * (y2 * z2) + (y1 * z1) * (x2 * z2)) * (z1 * z2 * (z1 * z2) - d * ((x1 * z1) * (x2 * z2) * ((y1 * z1) * (y2 * z2)))) = rx * ((z1 * z2 * (z1 * z2) + d * ((x1 * z1) * (x2 * z2) * ((y1 * z1) * (y2 * z2)))) * (z1 * z2 * (z1 * z2) - d * ((x1 * z1) * (x2 * z2) * ((y1 * z1) * (y2 * z2))))) ∧
  z1 * z2 * ((y1 * z1) * (y2 * z2) + (x1 * z1) * (x2 * z2)) * (z1 * z2 * (z1 * z2) + d * ((x1 * z1) * (x2 * z2) * ((y1 * z1) * (y2 * z2)))) = ry * ((z1 * z2 * (z1 * z2) + d * ((x1 * z1) * (x2 * z2) * ((y1 * z1) * (y2 * z2)))) * (z1 * z2 * (z1 * z2) - d * ((x1 * z1) * (x2 * z2) * ((y1 * z1) * (y2 * z2))))) := by
 have e1 : z1 * z2 * (z1 * z2) + d * ((x1 * z1) * (x2 * z2) * ((y1 * z1) * (y2 * z2))) = z1 * z2 * (z1 * z2) * (1 + d * x1 * x2 * y1 * y2) := by grind
 have e2 : z1 * z2 * (z1 * z2) - d * ((x1 * z1) * (x2 * z2) * ((y1 * z1) * (y2 * z2))) = z1 * z2 * (z1 * z2) * (1 - d * x1 * x2 * y1 * y2) := by grind
 refine ⟨e1, e2, ?_, ?_⟩
 ·rw [e1, e2]; grind
 ·rw [e1, e2]; grind
theorem Stands.plus {s t : T3} {p q : Pt} (hs : Stands s p) (ht : Stands t q) (hp : OnC p) (hq : OnC q) : Stands (plus3 s t) (psum p q) := by
 have h := psum_is hp hq
 have g := plus_gen cD p.x p.y s.z q.x q.y t.z (psum p q).x (psum p q).y h.x h.y
 have n1 := plus_ne hp hq
 have n2 := minus_ne hp hq
 have hz := fp_mul_ne hs.z ht.z
 have e : plus3 s t = plus3 ⟨p.x * s.z, p.y * s.z, s.z⟩ ⟨q.x * t.z, q.y * t.z, t.z⟩ := by
  have h1 : s = ⟨p.x * s.z, p.y * s.z, s.z⟩ := by rw [← hs.x, ← hs.y]
  have h2 : t = ⟨q.x * t.z, q.y * t.z, t.z⟩ := by rw [← ht.x, ← ht.y]
  rw [← h1, ← h2]
 rw [e]
 refine ⟨?_, g.2.2.1, g.2.2.2⟩
 show (_ : Fp) * _ ≠ 0
 rw [g.1, g.2.1]
 exact fp_mul_ne (fp_mul_ne (fp_mul_ne hz hz) n1) (fp_mul_ne (fp_mul_ne hz hz) n2)
theorem dbl_gen (d x y z rx ry : Fp) (hc : y * y - x * x = 1 + d * x * x * y * y) (hx : rx * (1 + d * x * x * y * y) = x * y + y * x) (hy : ry * (1 - d * x * x * y * y) = y * y + x * x) :
  (y * z * (y * z) - x * z * (x * z) = z * z * (1 + d * x * x * y * y)) ∧ (z * z + z * z - (y * z * (y * z) - x * z * (x * z)) = z * z * (1 - d * x * x * y * y)) ∧
  (x * z * (y * z) + x * z * (y * z)) * (z * z + z * z - (y * z * (y * z) - x * z * (x * z))) = rx * ((y * z * (y * z) - x * z * (x * z)) * (z * z + z * z - (y * z * (y * z) - x * z * (x * z)))) ∧
  (y * z * (y * z) + x * z * (x * z)) * (y * z * (y * z) - x * z * (x * z)) = ry * ((y * z * (y * z) - x * z * (x * z)) * (z * z + z * z - (y * z * (y * z) - x * z * (x * z)))) := by
 have e1 : y * z * (y * z) - x * z * (x * z) = z * z * (1 + d * x * x * y * y) := by grind
 have e2 : z * z + z * z - z * z * (1 + d * x * x * y * y) = z * z * (1 - d * x * x * y * y) := by grind
 refine ⟨e1, by rw [e1, e2], ?_, ?_⟩
 ·rw [e1, e2]; grind
 ·rw [e1, e2]; grind
theorem Stands.dbl {s : T3} {p : Pt} (hs : Stands s p) (hp : OnC p) : Stands (dbl3 s) (psum p p) := by
 have h := psum_is hp hp
 have g := dbl_gen cD p.x p.y s.z (psum p p).x (psum p p).y hp h.x h.y
 have n1 := plus_ne hp hp
 have n2 := minus_ne hp hp
 have hz := fp_mul_ne hs.z hs.z
 have e : dbl3 s = dbl3 ⟨p.x * s.z, p.y * s.z, s.z⟩ := by
  have h1 : s = ⟨p.x * s.z, p.y * s.z, s.z⟩ := by rw [← hs.x, ← hs.y]
  rw [← h1]
 rw [e]
 refine ⟨?_, g.2.2.1, g.2.2.2⟩
 show (p.y * s.z * (p.y * s.z) - p.x * s.z * (p.x * s.z)) * (s.z * s.z + s.z * s.z - (p.y * s.z * (p.y * s.z) - p.x * s.z * (p.x * s.z))) ≠ 0
 rw [g.2.1, g.1]
 exact fp_mul_ne (fp_mul_ne hz n1) (fp_mul_ne hz n2)
theorem fp_mul_one (a : Fp) : a * 1 = a := by grind
theorem Stands.one (p : Pt) : Stands ⟨p.x, p.y, 1⟩ p := ⟨one_ne, (fp_mul_one _).symm, (fp_mul_one _).symm⟩
theorem Stands.zero : Stands zero3 pzero := Stands.one pzero
/-- So many times, by bits. -/
theorem Stands.run {s : T3} {p : Pt} (hs : Stands s p) (hp : OnC p) (v T : Nat) (hv : v < 2 ^ T) : ∀ j, j ≤ T → Stands (run3 s v T j) (ptimes (v / 2 ^ (T - j)) p)
 | 0, _ => by
  rw [Nat.sub_zero, Nat.div_eq_of_lt hv]
  exact Stands.zero
 | j + 1, hj => by
  have ih := Stands.run hs hp v T hv j (by omega)
  have hn : v / 2 ^ (T - (j + 1)) = 2 * (v / 2 ^ (T - j)) + v / 2 ^ (T - (j + 1)) % 2 := by
   have : T - j = T - (j + 1) + 1 := by omega
   rw [this, Nat.pow_succ, ← Nat.div_div_eq_div_mul]
   omega
  have h2 := ih.dbl (ptimes_on hp _)
  rw [← ptimes_add hp] at h2
  show Stands (after3 (run3 s v T j) (decide (v / 2 ^ (T - (j + 1)) % 2 = 1)) s) _
  generalize v / 2 ^ (T - j) = m at *
  rcases Nat.mod_two_eq_zero_or_one (v / 2 ^ (T - (j + 1))) with h | h
  ·rw [h] at hn
   rw [h, hn, Nat.add_zero, Nat.two_mul]
   exact h2
  ·rw [h] at hn
   rw [h, hn, Nat.two_mul]
   exact h2.plus hs (ptimes_on hp _) hp
theorem Stands.all {s : T3} {p : Pt} (hs : Stands s p) (hp : OnC p) (v T : Nat) (hv : v < 2 ^ T) : Stands (run3 s v T T) (ptimes v p) := by
 have := hs.run hp v T hv T (Nat.le_refl _)
 rwa [Nat.sub_self, Nat.pow_zero, Nat.div_one] at this
/-- Divided in the end. -/
theorem div_gen (x z i : Fp) (h : z * i = 1) : x * z * (1 * i) = x := by grind
theorem Stands.div {s : T3} {p : Pt} (hs : Stands s p) : s.x * (1 * finv s.z) = p.x ∧ s.y * (1 * finv s.z) = p.y := by
 have h := finv_mul hs.z
 exact ⟨by rw [hs.x]; exact div_gen _ _ _ h, by rw [hs.y]; exact div_gen _ _ _ h⟩
end Go.Proofs.YthangiocheodoaaGreatDoor.N

/-
 Layer 18, in plain words: the order; a byte of 32 that is set; a clamped number.
-/
namespace Go.Proofs.YthangiocheodoaaGreatDoor.N
set_option linter.unusedVariables false
set_option maxRecDepth 8192

/-- The order of the base. -/
def oL : Nat := 7237005577332262213973186563042994240857116359379907606001950938285454250989
theorem oL_pos : 0 < oL := by decide
theorem oL_lt : oL < 2 ^ 253 := by decide
theorem oL_lt256 : oL < 2 ^ 256 := Nat.lt_trans oL_lt (by decide)
theorem mod_oL (v : Nat) : v % oL < oL := Nat.mod_lt _ oL_pos
theorem mod_oL256 (v : Nat) : v % oL < 2 ^ 256 := Nat.lt_trans (mod_oL v) oL_lt256
/-- The number of 32 bytes of which one is set. -/
def setN (v j x : Nat) : Nat := vL ((digL v 32).set j x)
theorem set_num (v j : Nat) {x : Nat} (hx : x < 256) : (digL v 32).set j x = digL (setN v j x) 32 := by
 have h := digL_of ((digL_dig v 32).set j hx)
 rwa [List.length_set, digL_length] at h
theorem set_lt (v j : Nat) {x : Nat} (hx : x < 256) : setN v j x < 2 ^ 256 := by
 have h := ((digL_dig v 32).set j hx).vL_lt
 rw [List.length_set, digL_length] at h
 exact Nat.lt_of_lt_of_le h (by decide)
theorem set_byte (v : Nat) {j x : Nat} (i : Nat) (hi : i < 32) (hj : j < 32) (hx : x < 256) : setN v j x / 256 ^ i % 256 = if i = j then x else v / 256 ^ i % 256 := by
 rw [← dg_digL (x := setN v j x) hi, ← set_num v j hx, dg_set (by rw [digL_length]; exact hj), dg_digL hi]
theorem set_again (v j : Nat) {x y : Nat} (hx : x < 256) (hy : y < 256) : setN (setN v j x) j y = setN v j y := by
 unfold setN
 rw [show vL ((digL v 32).set j x) = setN v j x from rfl, ← set_num v j hx, List.set_set]
theorem set_same {v : Nat} (hv : v < 2 ^ 256) {j : Nat} (hj : j < 32) : setN v j (v / 256 ^ j % 256) = v := by
 have h1 : v < 256 ^ 32 := Nat.lt_of_lt_of_le hv (by decide)
 unfold setN
 rw [← dg_digL (x := v) hj]
 have e : (digL v 32).set j (dg (digL v 32) j) = digL v 32 := by
  apply list_dg (by rw [List.length_set])
  intro i
  rw [dg_set (by rw [digL_length]; exact hj)]
  split
  ·subst i; rfl
  ·rfl
 rw [e, vL_digL_lt h1]
/-- The lowest three bits and the highest are 0, the one below it is 1. -/
def lowB (x : Nat) : Nat := x - x % 8
def topB (x : Nat) : Nat := x % 64 + 64
theorem lowB_lt {x : Nat} (h : x < 256) : lowB x < 256 := by unfold lowB; omega
theorem topB_lt (x : Nat) : topB x < 256 := by unfold topB; omega
def clampN (v : Nat) : Nat := setN (setN v 0 (lowB (v / 256 ^ 0 % 256))) 31 (topB (v / 256 ^ 31 % 256))
theorem mod256 (n : Nat) : n % 256 < 256 := Nat.mod_lt _ (by decide)
theorem clamp_lt (v : Nat) : clampN v < 2 ^ 256 := set_lt _ _ (topB_lt _)
end Go.Proofs.YthangiocheodoaaGreatDoor.N

/-
 Layer 18, in plain words: so many times the base as the order is the zero point; the base scaled by what is left.
-/
namespace Go.Proofs.YthangiocheodoaaGreatDoor.N
set_option linter.unusedVariables false
set_option maxRecDepth 8192

def base3 : T3 := ⟨⟨baseX, baseX_lt⟩, ⟨baseY, baseY_lt⟩, 1⟩
theorem order_run : (run3 base3 oL 253 253).x = 0 ∧ (run3 base3 oL 253 253).y = (run3 base3 oL 253 253).z := by decide +kernel
theorem base_order : ptimes oL pbase = pzero := by
 have h := Stands.all (Stands.one pbase) pbase_on oL 253 oL_lt
 have e : (⟨pbase.x, pbase.y, 1⟩ : T3) = base3 := rfl
 rw [e] at h
 obtain ⟨h1, h2⟩ := order_run
 have h3 := h.div
 have h4 := finv_mul h.z
 rw [h1, h2] at h3
 generalize run3 base3 oL 253 253 = t at *
 apply Pt.ext
 ·rw [← h3.1]; show (0 : Fp) * _ = 0; grind
 ·rw [← h3.2]; show _ = (1 : Fp); grind
theorem base_mod (v : Nat) : ptimes (v % oL) pbase = ptimes v pbase := by
 have e : v = oL * (v / oL) + v % oL := (Nat.div_add_mod v oL).symm
 have h1 : ptimes v pbase = psum (ptimes (oL * (v / oL)) pbase) (ptimes (v % oL) pbase) := by
  rw [← ptimes_add pbase_on]
  exact congrArg (fun n => ptimes n pbase) e
 rw [h1, ptimes_mul pbase_on, base_order, ptimes_zero, psum_comm pzero_on (ptimes_on pbase_on _), psum_zero (ptimes_on pbase_on _)]
end Go.Proofs.YthangiocheodoaaGreatDoor.N
