/-
  Layer 17, in plain words: points as numbers, packed and unpacked.
-/
import Derived.Test.YtgofapndgjfnhaaDoorCurvePlain4
import Derived.Test.YtgofapndgjfnhaaDoorFieldRoot
namespace Go.Proofs.YtgofapndgjfnhaaDoor.N
set_option linter.unusedVariables false
set_option maxRecDepth 8192

/-- Two numbers that are a point of the curve. -/
def OnN (x y : Nat) : Prop := ∃ p : Pt, OnC p ∧ x = p.x.val ∧ y = p.y.val
theorem onN_of {p : Pt} (h : OnC p) : OnN p.x.val p.y.val := ⟨p, h, rfl, rfl⟩
theorem onN_iff (p : Pt) : OnN p.x.val p.y.val ↔ OnC p := by
  constructor
  · rintro ⟨q, hq, h1, h2⟩
    have : p = q := Pt.ext (Fin.ext h1) (Fin.ext h2)
    rwa [this]
  · exact onN_of
theorem onN_lt {x y : Nat} (h : OnN x y) : x < fP ∧ y < fP := by
  obtain ⟨p, _, rfl, rfl⟩ := h
  exact ⟨p.x.isLt, p.y.isLt⟩
theorem on_alt (p : Pt) : OnC p ↔ p.y * p.y - p.x * p.x = 1 + cD * (p.x * p.x * (p.y * p.y)) := by
  have e : 1 + cD * (p.x * p.x * (p.y * p.y)) = 1 + cD * p.x * p.x * p.y * p.y := by
    generalize cD = d
    grind
  unfold OnC
  rw [e]
theorem fp_zero_sub (a : Fp) : 0 - a = -a := by grind
theorem neg_val {a : Fp} (h : a ≠ 0) : (-a).val = fP - a.val := by
  rw [← fp_zero_sub, fp_sub]
  have h1 := fp_pos h
  have h2 := a.isLt
  show (0 + (fP - a.val)) % fP = _
  rw [Nat.zero_add, Nat.mod_eq_of_lt (by omega)]
theorem neg_par {a : Fp} (h : a ≠ 0) : (-a).val % 2 = 1 - a.val % 2 := by
  rw [neg_val h]
  have := fP_odd
  have h2 := a.isLt
  omega
theorem neg_ne {a : Fp} (h : a ≠ 0) : -a ≠ 0 := fun e => h (by
  have : a = - (-a) := by grind
  rw [this, e]; grind)
theorem neg_neg_fp (a : Fp) : -(-a) = a := by grind
theorem on_neg {x y : Fp} (h : OnC ⟨x, y⟩) : OnC ⟨-x, y⟩ := pneg_on h
/-- The square that x must have. -/
def ySq (y : Fp) : Fp := (y * y - 1) * finv (1 + cD * (y * y))
theorem down_alt (y : Fp) : 1 + cD * (y * y) ≠ 0 := by
  have e : 1 + cD * (y * y) = 1 + cD * y * y := by
    generalize cD = d
    grind
  rw [e]
  exact down_ne y
theorem ySq_on {x y : Fp} : OnC ⟨x, y⟩ ↔ x * x = ySq y := by
  refine on_root ?_
  have e : 1 + cD * y * y = 1 + cD * (y * y) := by
    generalize cD = d
    grind
  rw [e]
  exact mul_back (finv_mul (down_alt y))
theorem ySq_root (y : Fp) : HasRoot (ySq y).val ↔ ∃ x, OnC ⟨x, y⟩ := by
  constructor
  · rintro ⟨r, hr⟩
    refine ⟨⟨r % fP, mod_fP _⟩, ySq_on.2 (Fin.ext ?_)⟩
    rw [fp_mul]
    show r % fP * (r % fP) % fP = _
    rw [← Nat.mul_mod, hr, Nat.mod_eq_of_lt (ySq y).isLt]
  · rintro ⟨x, hx⟩
    exact ⟨x.val, by rw [← fp_mul, ySq_on.1 hx, Nat.mod_eq_of_lt (ySq y).isLt]⟩
theorem ySq_even {x y : Fp} (h : OnC ⟨x, y⟩) (he : x.val % 2 = 0) : rtN (ySq y).val * rtN (ySq y).val % fP = (ySq y).val ∧ evN (rtN (ySq y).val) = x.val := by
  refine ⟨(root_iff (ySq y).isLt).2 ((ySq_root y).2 ⟨x, h⟩), ?_⟩
  rw [root_of' x.isLt (by rw [← fp_mul, ySq_on.1 h]), evN_def, if_neg (by omega)]
/-- Of the x of a y one is even. -/
theorem even_x {x y : Fp} (h : OnC ⟨x, y⟩) : ∃ u : Fp, OnC ⟨u, y⟩ ∧ u.val % 2 = 0 ∧ (u = x ∨ u = -x) := by
  rcases Nat.mod_two_eq_zero_or_one x.val with h1 | h1
  · exact ⟨x, h, h1, .inl rfl⟩
  · have hx : x ≠ 0 := fun e => by rw [e] at h1; exact absurd h1 (by decide)
    exact ⟨-x, on_neg h, by rw [neg_par hx, h1], .inr rfl⟩
theorem fP_255 : fP < 2 ^ 255 := fP_lt
theorem two_255 : (2 : Nat) ^ 256 = 2 * 2 ^ 255 := by rw [← Nat.pow_succ']
/-- A point as bytes. -/
def packN (p : Pt) : Nat := p.y.val + 2 ^ 255 * (p.x.val % 2)
theorem packN_lt (p : Pt) : packN p < 2 ^ 256 := by
  unfold packN
  have h1 := p.y.isLt
  have h2 := fP_255
  have h3 := two_255
  have h4 : p.x.val % 2 < 2 := Nat.mod_lt _ (by decide)
  generalize (2 : Nat) ^ 255 = A at *
  generalize (2 : Nat) ^ 256 = B at *
  rcases (show p.x.val % 2 = 0 ∨ p.x.val % 2 = 1 by omega) with h | h <;> rw [h] <;> omega
theorem packN_parts (p : Pt) : packN p % 2 ^ 255 = p.y.val ∧ packN p / 2 ^ 255 = p.x.val % 2 := by
  unfold packN
  have h1 : p.y.val < 2 ^ 255 := Nat.lt_trans p.y.isLt fP_255
  exact ⟨by rw [Nat.add_mul_mod_self_left, Nat.mod_eq_of_lt h1], by rw [Nat.add_mul_div_left _ _ (Nat.two_pow_pos 255), Nat.div_eq_of_lt h1, Nat.zero_add]⟩
theorem packN_inj {p q : Pt} (hp : OnC p) (hq : OnC q) (h : packN p = packN q) : p = q := by
  have h1 := packN_parts p
  have h2 := packN_parts q
  rw [h] at h1
  have hy : p.y = q.y := Fin.ext (h1.1.symm.trans h2.1)
  have hx : p.x.val % 2 = q.x.val % 2 := h1.2.symm.trans h2.2
  have e : q = ⟨q.x, p.y⟩ := by rw [hy]
  rw [e] at hq
  have hp' : OnC ⟨p.x, p.y⟩ := hp
  rcases on_two hp' hq with h3 | h3
  · exact Pt.ext h3 hy
  · by_cases h0 : q.x = 0
    · refine Pt.ext ?_ hy
      rw [h3, h0]; grind
    · have := neg_par h0
      rw [← h3] at this
      have h4 : q.x.val % 2 < 2 := Nat.mod_lt _ (by decide)
      omega
theorem baseY_div : (4 : Fp) * finv 5 = ⟨baseY, baseY_lt⟩ := by
  have h5 : (5 : Fp) ≠ 0 := by decide
  refine fp_cancel h5 ?_
  have h1 : (5 : Fp) * (4 * finv 5) = 4 := by
    have := finv_mul h5
    generalize finv 5 = i at *
    grind
  rw [h1]
  decide +kernel
end Go.Proofs.YtgofapndgjfnhaaDoor.N
