/-
  The field of 8192 elements, on: inverses, no divisors of 0, the order of 2, every element but 0 a power of 2, powers by whole numbers.
-/
import Derived.Test.YtjiaomkjebbkpabGfPlain
namespace Go.Proofs.Ytjiaomkjebbkpab
set_option linter.unusedVariables false

def ginv (a : Nat) : Nat := gpow a 8190
theorem ginv_lt (a : Nat) (ha : a < 8192) : ginv a < 8192 := gpow_lt a 8190 ha
theorem gmul_ginv (a : Nat) (ha : a < 8192) (h0 : a ≠ 0) : gmul a (ginv a) = 1 := by
  rw [gmul_comm a _ ha (ginv_lt a ha)]
  exact gpow_8191 a ha h0
theorem gmul_ne_zero (a b : Nat) (ha : a < 8192) (hb : b < 8192) (h0 : a ≠ 0) (h1 : b ≠ 0) : gmul a b ≠ 0 := by
  intro h
  apply h1
  have e : gmul (ginv a) (gmul a b) = b := by
    rw [← gmul_assoc _ _ _ (ginv_lt a ha) ha hb, gmul_comm _ a (ginv_lt a ha) ha, gmul_ginv a ha h0, one_gmul b hb]
  rw [h, gmul_zero] at e
  exact e.symm
theorem ginv_unique (a i : Nat) (ha : a < 8192) (hi : i < 8192) (h : gmul a i = 1) : i = ginv a := by
  have h0 : a ≠ 0 := by
    rintro rfl
    rw [zero_gmul i hi] at h
    exact absurd h (by decide)
  have e : gmul (ginv a) (gmul a i) = i := by
    rw [← gmul_assoc _ _ _ (ginv_lt a ha) ha hi, gmul_comm _ a (ginv_lt a ha) ha, gmul_ginv a ha h0, one_gmul i hi]
  rw [h, gmul_one _ (ginv_lt a ha)] at e
  exact e.symm
theorem gpow_ne_zero (a n : Nat) (ha : a < 8192) (h0 : a ≠ 0) : gpow a n ≠ 0 := by
  induction n with
  | zero => show 1 ≠ 0; decide
  | succ n ih => exact gmul_ne_zero _ _ (gpow_lt a n ha) ha ih h0
theorem ginv_ne_zero (a : Nat) (ha : a < 8192) (h0 : a ≠ 0) : ginv a ≠ 0 := gpow_ne_zero a 8190 ha h0
theorem ginv_gmul (a b : Nat) (ha : a < 8192) (hb : b < 8192) : ginv (gmul a b) = gmul (ginv a) (ginv b) := gmul_gpow a b 8190 ha hb

theorem gpow_mod (a n : Nat) (ha : a < 8192) (h0 : a ≠ 0) : gpow a n = gpow a (n % 8191) := by
  have e : n = 8191 * (n / 8191) + n % 8191 := (Nat.div_add_mod n 8191).symm
  have h1 : gpow a (8191 * (n / 8191)) = 1 := by rw [gpow_mul a _ _ ha, gpow_8191 a ha h0, one_gpow]
  rw [e, gpow_add a _ _ ha, h1, one_gmul _ (gpow_lt a _ ha), ← e]

/-- Where the powers m and n are 1, the power of their greatest common divisor is. -/
theorem gpow_gcd (a : Nat) (ha : a < 8192) (m n : Nat) : gpow a m = 1 → gpow a n = 1 → gpow a (Nat.gcd m n) = 1 := by
  induction m, n using Nat.gcd.induction with
  | H0 n => intro _ h; rw [Nat.gcd_zero_left]; exact h
  | H1 m n hm ih =>
    intro h1 h2
    rw [Nat.gcd_rec]
    refine ih ?_ h1
    have e : n = m * (n / m) + n % m := (Nat.div_add_mod n m).symm
    have h3 : gpow a (m * (n / m)) = 1 := by rw [gpow_mul a _ _ ha, h1, one_gpow]
    rw [e, gpow_add a _ _ ha, h3, one_gmul _ (gpow_lt a _ ha)] at h2
    exact h2
theorem gcd_fin : ∀ i : Fin 128, ∀ j : Fin 64, 64 * i.val + j.val ≠ 0 → 64 * i.val + j.val < 8191 → Nat.gcd (64 * i.val + j.val) 8191 = 1 := by decide +kernel
theorem two_order (r : Nat) (h0 : r ≠ 0) (hr : r < 8191) : gpow 2 r ≠ 1 := by
  intro h
  have hg := fin_of (P := fun r => r ≠ 0 → r < 8191 → Nat.gcd r 8191 = 1) gcd_fin r (by omega) h0 hr
  have := gpow_gcd 2 (by decide) r 8191 h (gpow_8191 2 (by decide) (by decide))
  rw [hg, gpow_one 2 (by decide)] at this
  exact absurd this (by decide)
theorem two_pow_iff (n : Nat) : gpow 2 n = 1 ↔ n % 8191 = 0 := by
  rw [gpow_mod 2 n (by decide) (by decide)]
  constructor
  · intro h
    rcases Nat.eq_zero_or_pos (n % 8191) with h0 | h0
    · exact h0
    · exact absurd h (two_order _ (by omega) (Nat.mod_lt _ (by decide)))
  · intro h; rw [h]; rfl
theorem two_inj (i j : Nat) (hi : i < 8191) (hj : j < 8191) (h : gpow 2 i = gpow 2 j) : i = j := by
  have key : ∀ i j : Nat, i ≤ j → j < 8191 → gpow 2 i = gpow 2 j → i = j := by
    intro i j hij hj h
    have hlt := gpow_lt 2 i (by decide)
    have e : gpow 2 j = gmul (gpow 2 i) (gpow 2 (j - i)) := by rw [← gpow_add 2 _ _ (by decide), show i + (j - i) = j from by omega]
    rw [← h] at e
    have h1 : gmul (ginv (gpow 2 i)) (gpow 2 i) = 1 := by
      rw [gmul_comm _ _ (ginv_lt _ hlt) hlt]; exact gmul_ginv _ hlt (gpow_ne_zero 2 i (by decide) (by decide))
    have e2 : 1 = gpow 2 (j - i) := by
      have := congrArg (gmul (ginv (gpow 2 i))) e
      rwa [← gmul_assoc _ _ _ (ginv_lt _ hlt) hlt (gpow_lt 2 _ (by decide)), h1, one_gmul _ (gpow_lt 2 _ (by decide))] at this
    have := (two_pow_iff (j - i)).1 e2.symm
    omega
  rcases Nat.le_total i j with hij | hij
  · exact key i j hij hj h
  · exact (key j i hij hi h.symm).symm

/-- A list of n unlike numbers below n holds each. -/
theorem nodup_le : ∀ (n : Nat) (l : List Nat), l.Nodup → (∀ x ∈ l, x < n) → l.length ≤ n
  | 0, l, _, h => by
    cases l with
    | nil => exact Nat.le_refl _
    | cons x l => exact absurd (h x (List.mem_cons_self)) (by omega)
  | n + 1, l, hn, h => by
    have hn' := hn.erase n
    have hl := nodup_le n (l.erase n) hn' (fun x hx => by
      have h1 := (List.Nodup.mem_erase_iff hn).1 hx
      have := h x h1.2
      omega)
    have := List.length_erase (a := n) (l := l)
    split at this <;> omega
theorem nodup_all : ∀ (n : Nat) (l : List Nat), l.Nodup → (∀ x ∈ l, x < n) → l.length = n → ∀ i, i < n → i ∈ l := by
  intro n l hn h hl i hi
  rcases Decidable.em (i ∈ l) with hm | hm
  · exact hm
  · exfalso
    have hc : (i :: l).Nodup := List.nodup_cons.2 ⟨hm, hn⟩
    have := nodup_le n (i :: l) hc (fun x hx => by
      rcases List.mem_cons.1 hx with rfl | hx
      · exact hi
      · exact h x hx)
    simp at this
    omega

/-- Each element but 0 is a power of 2, one below 8191. -/
theorem log_exists (a : Nat) (ha : a < 8192) (h0 : a ≠ 0) : ∃ n, n < 8191 ∧ gpow 2 n = a := by
  have hn : ((List.range 8191).map fun n => gpow 2 n - 1).Nodup := by
    rw [List.Nodup, List.pairwise_map]
    refine List.Pairwise.imp_of_mem ?_ (List.nodup_range (n := 8191))
    intro i j hi hj hne he
    have h1 := gpow_ne_zero 2 i (by decide) (by decide)
    have h2 := gpow_ne_zero 2 j (by decide) (by decide)
    exact hne (two_inj i j (List.mem_range.1 hi) (List.mem_range.1 hj) (by omega))
  have := nodup_all 8191 _ hn (fun x hx => by
    obtain ⟨n, _, rfl⟩ := List.mem_map.1 hx
    have := gpow_lt 2 n (by decide)
    have := gpow_ne_zero 2 n (by decide) (by decide)
    omega) (by simp) (a - 1) (by omega)
  obtain ⟨n, hn, he⟩ := List.mem_map.1 this
  have := gpow_ne_zero 2 n (by decide) (by decide)
  exact ⟨n, List.mem_range.1 hn, by omega⟩

/-- An element's power by a whole number. -/
def gz (a : Nat) (n : Int) : Nat := gpow a (n % 8191).toNat
theorem gz_lt (a : Nat) (n : Int) (ha : a < 8192) : gz a n < 8192 := gpow_lt a _ ha
theorem gz_nat (a n : Nat) (ha : a < 8192) (h0 : a ≠ 0) : gz a n = gpow a n := by
  unfold gz
  rw [gpow_mod a n ha h0]
  congr 1
theorem gz_add (a : Nat) (m n : Int) (ha : a < 8192) (h0 : a ≠ 0) : gz a (m + n) = gmul (gz a m) (gz a n) := by
  unfold gz
  rw [← gpow_add a _ _ ha, gpow_mod a ((m % 8191).toNat + (n % 8191).toNat) ha h0]
  congr 1
  omega
theorem gz_congr (a : Nat) (m n : Int) (h : m % 8191 = n % 8191) : gz a m = gz a n := by unfold gz; rw [h]
theorem gz_mul (a : Nat) (l : Nat) (n : Int) (ha : a < 8192) (h0 : a ≠ 0) : gz a ((l : Int) * n) = gz (gpow a l) n := by
  unfold gz
  rw [← gpow_mul a _ _ ha, gpow_mod a (l * (n % 8191).toNat) ha h0]
  congr 1
  have e : ((l * (n % 8191).toNat : Nat) : Int) = (l : Int) * (n % 8191) := by
    rw [Int.natCast_mul]
    congr 1
    omega
  have e2 : ((l : Int) * n) % 8191 = ((l : Int) * (n % 8191)) % 8191 := by rw [Int.mul_emod, Int.mul_emod (l : Int) (n % 8191), Int.emod_emod]
  rw [e2, ← e]
  rfl
theorem gz_neg_one (a : Nat) : gz a (-1) = ginv a := rfl
theorem gz_zero (a : Nat) : gz a 0 = 1 := rfl
theorem gz_one_iff (n : Int) : gz 2 n = 1 ↔ n % 8191 = 0 := by
  unfold gz
  rw [two_pow_iff]
  omega
/-- The power below 0: of the inverse. -/
theorem gz_neg (a n : Nat) (ha : a < 8192) (h0 : a ≠ 0) : gz a (-(n : Int)) = gpow (ginv a) n := by
  unfold ginv
  rw [← gpow_mul a _ _ ha, gpow_mod a (8190 * n) ha h0]
  unfold gz
  congr 1
  omega

end Go.Proofs.Ytjiaomkjebbkpab
