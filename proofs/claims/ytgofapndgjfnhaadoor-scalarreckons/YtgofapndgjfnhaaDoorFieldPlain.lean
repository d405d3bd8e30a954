/-
  Layer 16, in plain words: numbers taken round p = 2^255 - 19: inverses, products that are 0, squares and their roots.
-/
import Derived.Test.YtgofapndgjfnhaaDoorFieldPrime
namespace Go.Proofs.YtgofapndgjfnhaaDoor.N
set_option linter.unusedVariables false
set_option maxRecDepth 8192

theorem fP_pos : 0 < fP := by decide
theorem fP_one : 1 < fP := by decide
theorem fP_odd : fP % 2 = 1 := by decide
theorem fP_lt : fP < 2 ^ 255 := by decide
theorem mod_fP (a : Nat) : a % fP < fP := Nat.mod_lt _ fP_pos
/-- Powers taken round. -/
theorem pow_modP (a k : Nat) : (a % fP) ^ k % fP = a ^ k % fP := (Nat.pow_mod a k fP).symm
/-- A number that is not 0 is a power of 2. -/
theorem two_pow (a : Nat) (h : a % fP ≠ 0) : ∃ k, k < fP - 1 ∧ 2 ^ k % fP = a % fP := genP.all (a % fP) (Nat.pos_of_ne_zero h) (mod_fP a)
theorem fermat (a : Nat) (h : a % fP ≠ 0) : a ^ (fP - 1) % fP = 1 := by
  obtain ⟨k, _, hk⟩ := two_pow a h
  rw [← pow_modP, ← hk, pow_modP, ← Nat.pow_mul, Nat.mul_comm]
  exact pow_mod_one k genP.full fP_one
theorem inv_mul (a : Nat) (h : a % fP ≠ 0) : a * (a ^ (fP - 2) % fP) % fP = 1 := by
  rw [Nat.mul_mod, Nat.mod_mod, ← Nat.mul_mod, ← Nat.pow_succ', show (fP - 2).succ = fP - 1 from by decide]
  exact fermat a h
theorem mul_zero_iff (a b : Nat) : a * b % fP = 0 ↔ a % fP = 0 ∨ b % fP = 0 := by
  constructor
  · intro h
    by_cases ha : a % fP = 0
    · exact .inl ha
    · by_cases hb : b % fP = 0
      · exact .inr hb
      · exact absurd h (genP.mul_ne ha hb)
  · rintro (h | h)
    · rw [Nat.mul_mod, h, Nat.zero_mul, Nat.zero_mod]
    · rw [Nat.mul_mod, h, Nat.mul_zero, Nat.zero_mod]
/-- Like products by what is not 0 are of like numbers. -/
theorem mul_cancelP {a x y : Nat} (ha : a % fP ≠ 0) (hx : x < fP) (hy : y < fP) (h : a * x % fP = a * y % fP) : x = y := by
  have key : ∀ u v, u ≤ v → v < fP → a * u % fP = a * v % fP → u = v := fun u v huv hv e => by
    have h1 : a * (v - u) % fP = 0 := by
      rw [Nat.mul_sub]
      exact Nat.sub_mod_eq_zero_of_mod_eq e.symm
    rcases (mul_zero_iff _ _).1 h1 with h2 | h2
    · exact absurd h2 ha
    · rw [Nat.mod_eq_of_lt (by omega)] at h2; omega
  rcases Nat.le_total x y with h1 | h1
  · exact key x y h1 hy h
  · exact (key y x h1 hx h.symm).symm
theorem ne_of_mul_one {a x : Nat} (h : a * x % fP = 1) : a % fP ≠ 0 := by
  intro e
  rw [Nat.mul_mod, e, Nat.zero_mul, Nat.zero_mod] at h
  exact absurd h (by decide)
theorem inv_unique {a x y : Nat} (hx : x < fP) (hy : y < fP) (h1 : a * x % fP = 1) (h2 : a * y % fP = 1) : x = y :=
  mul_cancelP (ne_of_mul_one h1) hx hy (by rw [h1, h2])
/-- The inverse of a product. -/
theorem inv_prod {a b x y : Nat} (h1 : a * x % fP = 1) (h2 : b * y % fP = 1) : (a * b % fP) * (x * y % fP) % fP = 1 := by
  rw [← Nat.mul_mod, Nat.mul_mul_mul_comm, Nat.mul_mod, h1, h2]
  decide
/-- Like squares are of like numbers, or of such as make p together. -/
theorem sq_like {x y : Nat} (hx : x < fP) (hy : y < fP) (h : x * x % fP = y * y % fP) : x = y ∨ x + y = fP := by
  have key : ∀ u v, u ≤ v → v < fP → u * u % fP = v * v % fP → u = v ∨ u + v = fP := fun u v huv hv e => by
    have h1 : (v + u) * (v - u) % fP = 0 := by
      have h2 : v * v - u * u = (v + u) * (v - u) := by
        obtain ⟨d, rfl⟩ : ∃ d, v = u + d := ⟨v - u, by omega⟩
        rw [show u + d - u = d from by omega, Nat.add_mul (u + d) u d, Nat.add_mul u d (u + d), Nat.mul_add u u d, Nat.mul_add d u d, Nat.add_mul u d d, Nat.mul_comm d u]
        omega
      rw [← h2]
      exact Nat.sub_mod_eq_zero_of_mod_eq e.symm
    rcases (mul_zero_iff _ _).1 h1 with h2 | h2
    · have h3 : v + u < 2 * fP := by omega
      rcases Nat.lt_or_ge (v + u) fP with h4 | h4
      · rw [Nat.mod_eq_of_lt h4] at h2; left; omega
      · rw [Nat.mod_eq_sub_mod h4, Nat.mod_eq_of_lt (by omega)] at h2; right; omega
    · rw [Nat.mod_eq_of_lt (by omega)] at h2; left; omega
  rcases Nat.le_total x y with h1 | h1
  · exact key x y h1 hy h
  · rcases key y x h1 hx h.symm with h2 | h2
    · exact .inl h2.symm
    · right; omega
/-- What lacks to p has the same square. -/
theorem sq_neg {x : Nat} (hx : x ≤ fP) : (fP - x) * (fP - x) % fP = x * x % fP := by
  have e : (fP - x) * (fP - x) + 2 * x * fP = x * x + fP * fP := by
    obtain ⟨d, hd⟩ : ∃ d, fP = x + d := ⟨fP - x, by omega⟩
    rw [hd, show x + d - x = d from by omega, Nat.mul_add (2 * x), Nat.add_mul x d (x + d), Nat.mul_add x x d, Nat.mul_add d x d, Nat.mul_comm d x, Nat.mul_assoc 2 x x, Nat.mul_assoc 2 x d]
    omega
  have e2 := congrArg (· % fP) e
  simp only [Nat.add_mul_mod_self_right] at e2
  exact e2
/-- There is a number whose square is a. -/
def HasRoot (a : Nat) : Prop := ∃ r, r * r % fP = a % fP
theorem hasRoot_mod (a : Nat) : HasRoot (a % fP) ↔ HasRoot a := by unfold HasRoot; rw [Nat.mod_mod]
theorem root_of_even {a k : Nat} (h : 2 ^ k % fP = a % fP) (hk : k % 2 = 0) : HasRoot a := by
  refine ⟨2 ^ (k / 2), ?_⟩
  rw [← Nat.pow_add, show k / 2 + k / 2 = k from by omega, h]
theorem even_of_root {a k : Nat} (h : 2 ^ k % fP = a % fP) (hk : k < fP - 1) (hr : HasRoot a) : k % 2 = 0 := by
  obtain ⟨r, hr⟩ := hr
  have hr0 : r % fP ≠ 0 := by
    intro e
    have : a % fP = 0 := by rw [← hr]; exact (mul_zero_iff _ _).2 (.inl e)
    exact genP.ne_zero k (by rw [h, this])
  obtain ⟨j, hj, hjr⟩ := two_pow r hr0
  have h1 : 2 ^ (j + j) % fP = 2 ^ k % fP := by
    rw [h, ← hr, Nat.pow_add, Nat.mul_mod, hjr, ← Nat.mul_mod]
  -- the exponents are like, up to p - 1, which is even
  have h2 : 2 ^ ((j + j) % (fP - 1)) % fP = 2 ^ (j + j) % fP := by
    have e := Nat.div_add_mod (j + j) (fP - 1)
    conv => rhs; rw [← e, Nat.pow_add, Nat.mul_mod, pow_mod_one _ genP.full fP_one, Nat.one_mul, Nat.mod_mod]
  have h3 := genP.inj ((j + j) % (fP - 1)) k (Nat.mod_lt _ (by decide)) hk (by rw [h2, h1])
  have h4 : (fP - 1) % 2 = 0 := by decide
  have h5 : (j + j) % (fP - 1) % 2 = (j + j) % 2 := Nat.mod_mod_of_dvd _ (Nat.dvd_of_mod_eq_zero h4)
  omega
/-- Of a and of twice a just one has a root. -/
theorem root_one {a : Nat} (h : a % fP ≠ 0) : HasRoot a ↔ ¬ HasRoot (2 * a) := by
  obtain ⟨k, hk, hka⟩ := two_pow a h
  have h2 : 2 ^ (k + 1) % fP = 2 * a % fP := by rw [Nat.pow_succ', Nat.mul_mod, hka, ← Nat.mul_mod]
  have hP : (fP - 1) % 2 = 0 := by decide
  constructor
  · intro hr hr2
    have e1 := even_of_root hka hk hr
    rcases Nat.lt_or_ge (k + 1) (fP - 1) with h3 | h3
    · have := even_of_root h2 h3 hr2; omega
    · omega
  · intro hn
    by_cases e : k % 2 = 0
    · exact root_of_even hka e
    · exact absurd (root_of_even h2 (by omega)) hn
/-- The power (p - 1) / 2 of a square. -/
theorem euler {a : Nat} (h : a % fP ≠ 0) (hr : HasRoot a) : a ^ ((fP - 1) / 2) % fP = 1 := by
  obtain ⟨r, hr⟩ := hr
  have hr0 : r % fP ≠ 0 := by
    intro e
    exact h (by rw [← hr]; exact (mul_zero_iff _ _).2 (.inl e))
  rw [← pow_modP, ← hr, pow_modP, show r * r = r ^ 2 from by rw [Nat.pow_succ, Nat.pow_one], ← Nat.pow_mul, show 2 * ((fP - 1) / 2) = fP - 1 from by decide]
  exact fermat r hr0
/-- The root of -1. -/
def fI : Nat := 2 ^ 253 - 5
theorem root_neg : pwM fP 256 2 fI * pwM fP 256 2 fI % fP = fP - 1 := by decide +kernel
theorem fI_pow : pwM fP 256 2 fI = 2 ^ fI % fP := pwM_eq fP 256 2 fI (by decide)
/-- The power (p + 3) / 8 of a square is a root of it or of what it lacks to p. -/
theorem root_pow {a : Nat} (ha : a < fP) (hr : HasRoot a) : (a ^ ((fP + 3) / 8) % fP) * (a ^ ((fP + 3) / 8) % fP) % fP = a ∨ (a ^ ((fP + 3) / 8) % fP) * (a ^ ((fP + 3) / 8) % fP) % fP = (fP - a) % fP := by
  by_cases h0 : a = 0
  · subst h0
    left
    rw [Nat.zero_pow (by decide), Nat.zero_mod, Nat.mul_zero, Nat.zero_mod]
  · have ha0 : a % fP ≠ 0 := by rw [Nat.mod_eq_of_lt ha]; exact h0
    generalize hs : (a ^ ((fP + 3) / 8) % fP) * (a ^ ((fP + 3) / 8) % fP) % fP = s
    have hsl : s < fP := by rw [← hs]; exact mod_fP _
    have h1 : s = a ^ ((fP + 3) / 4) % fP := by
      rw [← hs, ← Nat.mul_mod, ← Nat.pow_add]
      congr 2
    have h2 : s * s % fP = a * a % fP := by
      rw [h1, ← Nat.mul_mod, ← Nat.pow_add, show (fP + 3) / 4 + (fP + 3) / 4 = 2 + (fP - 1) / 2 from by decide, Nat.pow_add, Nat.mul_mod, euler ha0 hr, Nat.mul_one, Nat.mod_mod, Nat.pow_succ, Nat.pow_one]
    rcases sq_like hsl ha h2 with h3 | h3
    · exact .inl h3
    · right
      rw [Nat.mod_eq_of_lt (by omega)]
      omega
theorem neg_mul_neg (x y i : Nat) (hx : x * x % fP = (fP - y) % fP) (hi : i * i % fP = fP - 1) (hy : y < fP) : (x * i % fP) * (x * i % fP) % fP = y := by
  rw [← Nat.mul_mod, Nat.mul_mul_mul_comm, Nat.mul_mod, hx, hi, Nat.mul_mod, Nat.mod_mod, ← Nat.mul_mod]
  have e : (fP - y) * (fP - 1) = y + fP * (fP - 1 - y) := by
    obtain ⟨d, hd⟩ : ∃ d, fP = d + y + 1 := ⟨fP - 1 - y, by omega⟩
    rw [hd, show d + y + 1 - y = d + 1 from by omega, show d + y + 1 - 1 = d + y from by omega, show d + y - y = d from by omega, Nat.add_mul d 1, Nat.mul_add d d y, Nat.one_mul, Nat.add_mul (d + y) 1 d, Nat.add_mul d y d, Nat.mul_comm y d, Nat.one_mul]
    omega
  rw [e, Nat.add_mul_mod_self_left, Nat.mod_eq_of_lt hy]
/-- Of a root and what it lacks to p just one is even. -/
theorem even_one {r : Nat} (h : r < fP) (h0 : r ≠ 0) : (fP - r) % 2 = 1 - r % 2 := by have := fP_odd; omega
theorem even_unique {x y : Nat} (hx : x < fP) (hy : y < fP) (ex : x % 2 = 0) (ey : y % 2 = 0) (h : x * x % fP = y * y % fP) : x = y := by
  rcases sq_like hx hy h with h1 | h1
  · exact h1
  · have := fP_odd; omega
end Go.Proofs.YtgofapndgjfnhaaDoor.N
