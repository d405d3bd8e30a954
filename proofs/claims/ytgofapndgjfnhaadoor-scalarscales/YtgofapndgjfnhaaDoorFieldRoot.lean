/-
  Layer 16, in plain words: what root makes of a square is a root of it.
-/
import Derived.Test.YtgofapndgjfnhaaDoorFieldCode7
namespace Go.Proofs.YtgofapndgjfnhaaDoor.N
set_option linter.unusedVariables false
set_option maxRecDepth 8192

theorem nat_congr {x y : Nat} (p : Nat) (h : x % p = y % p) : ∃ k : Int, (x : Int) = (y : Int) + (p : Int) * k := by
  refine ⟨(x / p : Nat) - (y / p : Nat), ?_⟩
  have h1 := Nat.div_add_mod x p
  have h2 := Nat.div_add_mod y p
  have h3 : (x : Int) = (p : Int) * ((x / p : Nat) : Int) + ((x % p : Nat) : Int) := by rw [← Int.natCast_mul, ← Int.natCast_add, h1]
  have h4 : (y : Int) = (p : Int) * ((y / p : Nat) : Int) + ((y % p : Nat) : Int) := by rw [← Int.natCast_mul, ← Int.natCast_add, h2]
  rw [Int.mul_sub, h]at *
  omega
theorem half_two : 2 ^ ((fP - 1) / 2) % fP = fP - 1 := by
  generalize ht : 2 ^ ((fP - 1) / 2) % fP = t
  have htl : t < fP := by rw [← ht]; exact mod_fP _
  have h1 : t * t % fP = 1 * 1 % fP := by
    rw [← ht, ← Nat.mul_mod, ← Nat.pow_add, show (fP - 1) / 2 + (fP - 1) / 2 = fP - 1 from by decide, genP.full]
    decide
  rcases sq_like htl fP_one h1 with h2 | h2
  · exact absurd (ht.trans h2) (genP.first _ (by decide) (by decide))
  · omega
/-- The power (p - 1) / 2 of what is no square. -/
theorem noneuler {a : Nat} (h : a % fP ≠ 0) (hr : ¬ HasRoot a) : a ^ ((fP - 1) / 2) % fP = fP - 1 := by
  obtain ⟨k, hk, hka⟩ := two_pow a h
  have hodd : k % 2 = 1 := by
    rcases Nat.mod_two_eq_zero_or_one k with h1 | h1
    · exact absurd (root_of_even hka h1) hr
    · exact h1
  rw [← pow_modP, ← hka, pow_modP, ← Nat.pow_mul, Nat.mul_comm, Nat.pow_mul, ← pow_modP, half_two]
  obtain ⟨j, rfl⟩ : ∃ j, k = 2 * j + 1 := ⟨k / 2, by omega⟩
  have h1 : (fP - 1) ^ 2 % fP = 1 := by rw [Nat.pow_two]; decide
  rw [Nat.pow_succ, Nat.mul_mod, pow_mod_one j h1 fP_one, Nat.one_mul, Nat.mod_mod, Nat.mod_eq_of_lt (by decide)]
theorem root_square {a v i N : Nat} (ha : a < fP) (hi : i % fP = (2 * a * v * v) % fP) (h2 : i * i % fP = fP - 1) (hN : N % fP = (a * v * (i + (fP - 1))) % fP) : N * N % fP = a := by
  obtain ⟨k, hk⟩ := nat_congr fP hi
  obtain ⟨m, hm⟩ := nat_congr fP (x := i * i + 1) (y := 0) (by rw [Nat.add_mod, h2, Nat.zero_mod]; decide)
  obtain ⟨n, hn⟩ := nat_congr fP hN
  have hone : ((fP - 1 : Nat) : Int) = (fP : Int) - 1 := by have := fP_pos; omega
  simp only [Int.natCast_mul, Int.natCast_add, hone, Int.cast_ofNat_Int] at hk hm hn
  have key : ∀ (p a v i N k m n : Int), i = 2 * a * v * v + p * k → i * i + 1 = 0 + p * m → N = a * v * (i + (p - 1)) + p * n → N * N = a + p * (m * a * a * v * v - a * m + a * i * k + 2 * (a * v * (i - 1)) * (a * v + n) + p * (a * v + n) * (a * v + n)) := by
    intro p a v i N k m n h1 h2 h3
    subst h3
    have h4 : i * i = p * m - 1 := by omega
    grind
  have hk2 := key _ _ _ _ _ _ _ _ hk hm hn
  have h5 : ((N * N : Nat) : Int) % (fP : Int) = (a : Int) := by
    rw [Int.natCast_mul, hk2, Int.add_mul_emod_self_left]
    exact Int.emod_eq_of_lt (by omega) (by omega)
  omega
theorem rtI_pow (a : Nat) : rtI a = (2 * a) ^ ((fP - 1) / 4) % fP := by
  have e : rtV a * rtV a % fP = ((a + a) % fP) ^ ((fP - 5) / 8 + (fP - 5) / 8) % fP := by unfold rtV; rw [← Nat.mul_mod, ← Nat.pow_add]
  unfold rtI
  rw [e, ← pow_modP (2 * a), Nat.two_mul]
  generalize (a + a) % fP = d
  rw [show (fP - 1) / 4 = (fP - 5) / 8 + (fP - 5) / 8 + 1 from by decide]
  generalize (fP - 5) / 8 + (fP - 5) / 8 = n
  rw [Nat.mul_mod, Nat.mod_mod, ← Nat.mul_mod, ← Nat.pow_succ']
theorem rtI_sq {a : Nat} (h : (2 * a) % fP ≠ 0) (hr : ¬ HasRoot (2 * a)) : rtI a * rtI a % fP = fP - 1 := by
  rw [rtI_pow, ← Nat.mul_mod, ← Nat.pow_add, show (fP - 1) / 4 + (fP - 1) / 4 = (fP - 1) / 2 from by decide]
  exact noneuler h hr
theorem rtN_zero {a : Nat} (h : a = 0) : rtN a = 0 := by
  unfold rtN
  generalize rtV a = v
  generalize rtI a = i
  rw [h, Nat.zero_mul, Nat.zero_mod, Nat.zero_mul, Nat.zero_mod]
theorem rtN_sq {a : Nat} (ha : a < fP) (hr : HasRoot a) : rtN a * rtN a % fP = a := by
  by_cases h0 : a = 0
  · rw [rtN_zero h0, Nat.mul_zero, Nat.zero_mod, h0]
  · have h1 : a % fP ≠ 0 := by rw [Nat.mod_eq_of_lt ha]; exact h0
    have h2 : ¬ HasRoot (2 * a) := (root_one h1).1 hr
    have h3 : (2 * a) % fP ≠ 0 := genP.mul_ne (by decide) h1
    refine root_square ha (v := rtV a) (i := rtI a) ?_ (rtI_sq h3 h2) ?_
    · unfold rtI
      generalize rtV a = v
      rw [Nat.mod_mod, ← Nat.mul_mod, Nat.mul_assoc (2 * a), Nat.two_mul]
    · unfold rtN
      generalize rtV a = v
      generalize rtI a = i
      rw [Nat.mod_mod, ← Nat.mul_mod]
theorem root_iff {a : Nat} (ha : a < fP) : rtN a * rtN a % fP = a ↔ HasRoot a :=
  ⟨fun h => ⟨rtN a, by rw [h, Nat.mod_eq_of_lt ha]⟩, fun h => rtN_sq ha h⟩
theorem evN_lt {r : Nat} (h : r < fP) : evN r < fP := by
  rw [evN_def]
  split
  · omega
  · exact h
theorem evN_even {r : Nat} (h : r < fP) : evN r % 2 = 0 := by
  rw [evN_def]
  have := fP_odd
  split <;> omega
theorem evN_sq {r : Nat} (h : r < fP) : evN r * evN r % fP = r * r % fP := by
  rw [evN_def]
  split
  · exact sq_neg (Nat.le_of_lt h)
  · rfl
/-- The even root of a square. -/
theorem root_of {r : Nat} (h : r < fP) : evN (rtN (r * r % fP)) = evN r := by
  have ha : r * r % fP < fP := mod_fP _
  have hr : HasRoot (r * r % fP) := ⟨r, by rw [Nat.mod_mod]⟩
  have h1 := rtN_sq ha hr
  have hl := rtN_lt (r * r % fP)
  generalize rtN (r * r % fP) = s at *
  exact even_unique (evN_lt hl) (evN_lt h) (evN_even hl) (evN_even h) (by rw [evN_sq hl, evN_sq h, h1])
theorem root_of' {r a : Nat} (h : r < fP) (ha : r * r % fP = a) : evN (rtN a) = evN r := by rw [← ha]; exact root_of h
theorem no_root2 : ¬ HasRoot 2 := (root_one (a := 1) (by decide)).1 ⟨1, rfl⟩
end Go.Proofs.YtgofapndgjfnhaaDoor.N
