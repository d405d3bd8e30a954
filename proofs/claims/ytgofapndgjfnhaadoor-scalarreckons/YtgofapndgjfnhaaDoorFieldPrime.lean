/-
  Layer 16, in plain words: p = 2^255 - 19 is prime, and 2 is a root of all: each number from 1 to p - 1 is a power of 2 (taken round p). By a chain of numbers whose predecessors are known as products, reckoned by the kernel.
-/
namespace Go.Proofs.YtgofapndgjfnhaaDoor.N
set_option linter.unusedVariables false
set_option maxRecDepth 8192

/-- A number of two divisors. -/
def Prm (q : Nat) : Prop := 1 < q ∧ ∀ d, d ∣ q → d = 1 ∨ d = q

/-- What is below m and hits nothing twice hits all. -/
theorem pigeon (m : Nat) : ∀ f : Nat → Nat, (∀ i, i < m → f i < m) → (∀ i j, i < m → j < m → f i = f j → i = j) → ∀ y, y < m → ∃ i, i < m ∧ f i = y := by
  induction m with
  | zero => intro f _ _ y hy; omega
  | succ m ih =>
    intro f hf hi y hy
    have hc := hf m (by omega)
    have hne : ∀ i, i < m → f i ≠ f m := fun i h e => by have := hi i m (by omega) (by omega) e; omega
    obtain ⟨g, hg⟩ : ∃ g : Nat → Nat, ∀ i, g i = if f i = m then f m else f i := ⟨_, fun _ => rfl⟩
    have h1 : ∀ i, i < m → g i < m := fun i h => by
      rw [hg]
      have a := hf i (by omega)
      have b := hne i h
      split <;> omega
    have h2 : ∀ i j, i < m → j < m → g i = g j → i = j := fun i j h h' e => by
      rw [hg, hg] at e
      have a := hne i h
      have b := hne j h'
      split at e
      · split at e
        · exact hi i j (by omega) (by omega) (by omega)
        · exact absurd e.symm b
      · split at e
        · exact absurd e a
        · exact hi i j (by omega) (by omega) e
    by_cases e : y = f m
    · exact ⟨m, by omega, e.symm⟩
    · by_cases ym : y = m
      · obtain ⟨i, h3, h4⟩ := ih g h1 h2 (f m) (by omega)
        rw [hg] at h4
        split at h4
        · rename_i h5; exact ⟨i, by omega, by omega⟩
        · exact absurd h4 (hne i h3)
      · obtain ⟨i, h3, h4⟩ := ih g h1 h2 y (by omega)
        rw [hg] at h4
        split at h4
        · exact absurd h4.symm e
        · exact ⟨i, by omega, h4⟩
/-- The least one. -/
theorem least (P : Nat → Prop) : ∀ n, P n → ∃ k, P k ∧ ∀ j, j < k → ¬ P j := by
  intro n
  induction n using Nat.strongRecOn with
  | ind n ih =>
    intro h
    by_cases e : ∃ j, j < n ∧ P j
    · obtain ⟨j, h1, h2⟩ := e; exact ih j h1 h2
    · exact ⟨n, h, fun j h1 h2 => e ⟨j, h1, h2⟩⟩
/-- A divisor, but 1, of a product of primes has one of them. -/
theorem prm_of_prod : ∀ (fs : List Nat) (c : Nat), (∀ q ∈ fs, Prm q) → c ≠ 1 → c ∣ fs.prod → ∃ q, q ∈ fs ∧ q ∣ c := by
  intro fs
  induction fs with
  | nil => intro c _ h1 h2; simp at h2; exact absurd h2 h1
  | cons q fs ih =>
    intro c hp h1 h2
    rw [List.prod_cons] at h2
    rcases (hp q List.mem_cons_self).2 (Nat.gcd c q) (Nat.gcd_dvd_right c q) with h | h
    · have h3 : c ∣ fs.prod := Nat.Coprime.dvd_of_dvd_mul_left h h2
      obtain ⟨r, h4, h5⟩ := ih c (fun x hx => hp x (List.mem_cons_of_mem _ hx)) h1 h3
      exact ⟨r, List.mem_cons_of_mem _ h4, h5⟩
    · exact ⟨q, List.mem_cons_self, by rw [← h]; exact Nat.gcd_dvd_left c q⟩
/-- A power of a power. -/
theorem pow_mod_one {g n d : Nat} (k : Nat) (h : g ^ d % n = 1) (hn : 1 < n) : g ^ (d * k) % n = 1 := by
  rw [Nat.pow_mul, Nat.pow_mod, h, Nat.one_pow, Nat.mod_eq_of_lt hn]
/-- g comes to 1 at n - 1 and not before: what that is of. -/
structure Gen (n g : Nat) : Prop where
  one : 1 < n
  full : g ^ (n - 1) % n = 1
  first : ∀ d, 0 < d → d < n - 1 → g ^ d % n ≠ 1
theorem Gen.of {n g : Nat} (fs : List Nat) (hn : 1 < n) (hp : ∀ q ∈ fs, Prm q) (hf : fs.prod = n - 1) (h1 : g ^ (n - 1) % n = 1) (h2 : ∀ q ∈ fs, g ^ ((n - 1) / q) % n ≠ 1) : Gen n g := by
  refine ⟨hn, h1, ?_⟩
  obtain ⟨d, ⟨hd0, hd1⟩, hmin⟩ := least (fun d => 0 < d ∧ g ^ d % n = 1) (n - 1) ⟨by omega, h1⟩
  have hdv : (n - 1) % d = 0 := by
    rcases Nat.eq_zero_or_pos ((n - 1) % d) with h | h
    · exact h
    · exfalso
      refine hmin _ (Nat.mod_lt _ hd0) ⟨h, ?_⟩
      have e := Nat.div_add_mod (n - 1) d
      have h3 := h1
      rw [← e, Nat.pow_add, Nat.mul_mod, pow_mod_one _ hd1 hn, Nat.one_mul, Nat.mod_mod] at h3
      exact h3
  obtain ⟨c, hc⟩ := Nat.dvd_of_mod_eq_zero hdv
  have hc1 : c = 1 := by
    by_cases e : c = 1
    · exact e
    · exfalso
      obtain ⟨q, hq, hqc⟩ := prm_of_prod fs c hp e ⟨d, by rw [hf, hc, Nat.mul_comm]⟩
      obtain ⟨b, rfl⟩ := hqc
      have hq0 : 0 < q := by have := (hp q hq).1; omega
      refine h2 q hq ?_
      rw [hc, show d * (q * b) = q * (d * b) from Nat.mul_left_comm _ _ _, Nat.mul_div_cancel_left _ hq0]
      exact pow_mod_one _ hd1 hn
  intro k hk0 hk1 hk
  exact hmin k (by rw [hc, hc1] at hk1; omega) ⟨hk0, hk⟩
theorem Gen.ne_zero {n g : Nat} (h : Gen n g) (k : Nat) : g ^ k % n ≠ 0 := by
  intro e
  have hn := h.one
  have h1 : g ^ ((n - 1) * (k + 1)) % n = 1 := pow_mod_one _ h.full hn
  have e2 : (n - 1) * (k + 1) = k + ((n - 1) * (k + 1) - k) := by
    have : k + 1 ≤ (n - 1) * (k + 1) := Nat.le_mul_of_pos_left _ (by omega)
    omega
  rw [e2, Nat.pow_add, Nat.mul_mod, e, Nat.zero_mul, Nat.zero_mod] at h1
  exact absurd h1 (by decide)
/-- What is cancelled. -/
theorem Gen.cancel {n g : Nat} (h : Gen n g) (k d : Nat) (e : g ^ k % n = g ^ (k + d) % n) : g ^ d % n = 1 := by
  have hn := h.one
  -- times g to the power that lacks
  have e2 : (n - 1) * (k + 1) = k + ((n - 1) * (k + 1) - k) := by
    have : k + 1 ≤ (n - 1) * (k + 1) := Nat.le_mul_of_pos_left _ (by omega)
    omega
  generalize hm : (n - 1) * (k + 1) - k = m at e2
  have h1 : g ^ (k + m) % n = 1 := by rw [← e2]; exact pow_mod_one _ h.full hn
  have h2 : g ^ (k + d + m) % n = 1 := by
    rw [Nat.pow_add, Nat.mul_mod, ← e, ← Nat.mul_mod, ← Nat.pow_add, h1]
  rw [show k + d + m = (k + m) + d from by omega, Nat.pow_add, Nat.mul_mod, h1, Nat.one_mul, Nat.mod_mod] at h2
  exact h2
theorem Gen.inj {n g : Nat} (h : Gen n g) (i j : Nat) (hi : i < n - 1) (hj : j < n - 1) (e : g ^ i % n = g ^ j % n) : i = j := by
  rcases Nat.lt_trichotomy i j with h1 | h1 | h1
  · exfalso
    exact h.first (j - i) (by omega) (by omega) (h.cancel i (j - i) (by rw [show i + (j - i) = j from by omega]; exact e))
  · exact h1
  · exfalso
    exact h.first (i - j) (by omega) (by omega) (h.cancel j (i - j) (by rw [show j + (i - j) = i from by omega]; exact e.symm))
/-- Each number from 1 to n - 1 is a power of g. -/
theorem Gen.all {n g : Nat} (h : Gen n g) (y : Nat) (h0 : 0 < y) (hy : y < n) : ∃ k, k < n - 1 ∧ g ^ k % n = y := by
  have hn := h.one
  have hlt : ∀ i, g ^ i % n < n := fun i => Nat.mod_lt _ (by omega)
  obtain ⟨i, h1, h2⟩ := pigeon (n - 1) (fun i => g ^ i % n - 1) (fun i _ => by have := hlt i; have := h.ne_zero i; show _ - 1 < _; omega)
    (fun i j hi hj e => h.inj i j hi hj (by have a := h.ne_zero i; have b := h.ne_zero j; have e' : g ^ i % n - 1 = g ^ j % n - 1 := e; omega)) (y - 1) (by omega)
  have h2' : g ^ i % n - 1 = y - 1 := h2
  have := h.ne_zero i
  exact ⟨i, h1, by omega⟩
/-- No product of numbers from 1 to n - 1 is 0. -/
theorem Gen.mul_ne {n g : Nat} (h : Gen n g) {a b : Nat} (ha : a % n ≠ 0) (hb : b % n ≠ 0) : a * b % n ≠ 0 := by
  have hn := h.one
  obtain ⟨i, _, hi⟩ := h.all (a % n) (Nat.pos_of_ne_zero ha) (Nat.mod_lt _ (by omega))
  obtain ⟨j, _, hj⟩ := h.all (b % n) (Nat.pos_of_ne_zero hb) (Nat.mod_lt _ (by omega))
  rw [Nat.mul_mod, ← hi, ← hj, ← Nat.mul_mod, ← Nat.pow_add]
  exact h.ne_zero _
theorem Gen.prm {n g : Nat} (h : Gen n g) : Prm n := by
  have hn := h.one
  refine ⟨hn, fun d hd => ?_⟩
  obtain ⟨e, he⟩ := hd
  have hd0 : 0 < d := Nat.pos_of_ne_zero (by rintro rfl; rw [Nat.zero_mul] at he; omega)
  have he0 : 0 < e := Nat.pos_of_ne_zero (by rintro rfl; rw [Nat.mul_zero] at he; omega)
  by_cases h1 : d = 1
  · exact .inl h1
  · right
    by_cases h2 : e = 1
    · rw [he, h2, Nat.mul_one]
    · exfalso
      have a1 : d * 2 ≤ d * e := Nat.mul_le_mul_left _ (by omega)
      have a2 : 2 * e ≤ d * e := Nat.mul_le_mul_right _ (by omega)
      refine h.mul_ne (a := d) (b := e) ?_ ?_ (by rw [← he, Nat.mod_self])
      · rw [Nat.mod_eq_of_lt (by omega)]; omega
      · rw [Nat.mod_eq_of_lt (by omega)]; omega
/-- A small number that none from 2 to 264 divides is prime. -/
theorem prm_small {q : Nat} (h1 : 1 < q) (h2 : q < 70225) (h : (List.range 263).all (fun i => decide (q % (i + 2) ≠ 0) || decide (q ≤ i + 2)) = true) : Prm q := by
  refine ⟨h1, fun d hd => ?_⟩
  obtain ⟨e, he⟩ := hd
  have key : ∀ x, 2 ≤ x → x < 265 → q % x = 0 → q ≤ x := fun x hx hx2 hq => by
    have := List.all_eq_true.1 h (x - 2) (List.mem_range.2 (by omega))
    rw [show x - 2 + 2 = x from by omega] at this
    simp only [Bool.or_eq_true, decide_eq_true_eq] at this
    rcases this with h | h
    · exact absurd hq h
    · exact h
  have hd0 : 0 < d := Nat.pos_of_ne_zero (by rintro rfl; rw [Nat.zero_mul] at he; omega)
  have he0 : 0 < e := Nat.pos_of_ne_zero (by rintro rfl; rw [Nat.mul_zero] at he; omega)
  by_cases hd1 : d = 1
  · exact .inl hd1
  · right
    by_cases he1 : e = 1
    · rw [he, he1, Nat.mul_one]
    · have a1 : d * 2 ≤ d * e := Nat.mul_le_mul_left _ (by omega)
      have a2 : 2 * e ≤ d * e := Nat.mul_le_mul_right _ (by omega)
      rcases Nat.lt_or_ge d 265 with hd2 | hd2
      · have := key d (by omega) hd2 (by rw [he, Nat.mul_mod_right])
        omega
      · rcases Nat.lt_or_ge e 265 with he2 | he2
        · have := key e (by omega) he2 (by rw [he, Nat.mul_mod_left])
          omega
        · have := Nat.mul_le_mul hd2 he2
          omega
/-- A power, taken round, bit by bit (for the kernel). -/
def pwM (n : Nat) : Nat → Nat → Nat → Nat
  | 0, _, _ => 1 % n
  | f + 1, g, e => bif Nat.beq (e % 2) 1 then g * pwM n f (g * g % n) (e / 2) % n else pwM n f (g * g % n) (e / 2)
theorem pwM_eq (n : Nat) (f : Nat) : ∀ g e, e < 2 ^ f → pwM n f g e = g ^ e % n := by
  induction f with
  | zero => intro g e h; rw [show e = 0 from by simpa using h]; rfl
  | succ f ih =>
    intro g e h
    have h2 : e / 2 < 2 ^ f := by rw [Nat.pow_succ] at h; omega
    have e1 : (g * g % n) ^ (e / 2) % n = g ^ (2 * (e / 2)) % n := by
      rw [← Nat.pow_mod, Nat.pow_mul, show g ^ 2 = g * g from by rw [Nat.pow_succ, Nat.pow_one]]
    simp only [pwM]
    rw [ih _ _ h2, e1]
    by_cases ho : e % 2 = 1
    · rw [show Nat.beq (e % 2) 1 = true from by rw [ho]; rfl, cond_true, Nat.mul_mod, Nat.mod_mod, ← Nat.mul_mod, ← Nat.pow_succ']
      congr 2
      omega
    · rw [show Nat.beq (e % 2) 1 = false from by have : e % 2 = 0 := by omega
                                                 rw [this]; rfl, cond_false]
      congr 2
      omega
/-- What the kernel looks at. -/
def okGen (n g : Nat) (fs : List Nat) : Bool :=
  Nat.beq fs.prod (n - 1) && Nat.blt (n - 1) (2 ^ 256) && Nat.beq (pwM n 256 g (n - 1)) 1 && fs.all (fun q => !Nat.beq (pwM n 256 g ((n - 1) / q)) 1)
theorem gen_of {n g : Nat} (fs : List Nat) (hn : 1 < n) (hp : ∀ q ∈ fs, Prm q) (h : okGen n g fs = true) : Gen n g := by
  simp only [okGen, Bool.and_eq_true] at h
  obtain ⟨⟨⟨h1, h2⟩, h3⟩, h4⟩ := h
  have h2' : n - 1 < 2 ^ 256 := Nat.lt_of_succ_le (Nat.le_of_ble_eq_true h2)
  refine Gen.of fs hn hp (Nat.eq_of_beq_eq_true h1) ?_ (fun q hq => ?_)
  · have := Nat.eq_of_beq_eq_true h3
    rwa [pwM_eq n 256 g _ h2'] at this
  · have h5 := List.all_eq_true.1 h4 q hq
    rw [pwM_eq n 256 g _ (Nat.lt_of_le_of_lt (Nat.div_le_self _ _) h2')] at h5
    intro e
    rw [e] at h5
    exact absurd h5 (by decide)
theorem prm2 : Prm 2 := prm_small (by decide) (by decide) (by decide +kernel)
theorem prm3 : Prm 3 := prm_small (by decide) (by decide) (by decide +kernel)
theorem prm5 : Prm 5 := prm_small (by decide) (by decide) (by decide +kernel)
theorem prm7 : Prm 7 := prm_small (by decide) (by decide) (by decide +kernel)
theorem prm13 : Prm 13 := prm_small (by decide) (by decide) (by decide +kernel)
theorem prm19 : Prm 19 := prm_small (by decide) (by decide) (by decide +kernel)
theorem prm31 : Prm 31 := prm_small (by decide) (by decide) (by decide +kernel)
theorem prm43 : Prm 43 := prm_small (by decide) (by decide) (by decide +kernel)
theorem prm47 : Prm 47 := prm_small (by decide) (by decide) (by decide +kernel)
theorem prm97 : Prm 97 := prm_small (by decide) (by decide) (by decide +kernel)
theorem prm103 : Prm 103 := prm_small (by decide) (by decide) (by decide +kernel)
theorem prm107 : Prm 107 := prm_small (by decide) (by decide) (by decide +kernel)
theorem prm127 : Prm 127 := prm_small (by decide) (by decide) (by decide +kernel)
theorem prm131 : Prm 131 := prm_small (by decide) (by decide) (by decide +kernel)
theorem prm223 : Prm 223 := prm_small (by decide) (by decide) (by decide +kernel)
theorem prm353 : Prm 353 := prm_small (by decide) (by decide) (by decide +kernel)
theorem prm419 : Prm 419 := prm_small (by decide) (by decide) (by decide +kernel)
theorem prm991 : Prm 991 := prm_small (by decide) (by decide) (by decide +kernel)
theorem prm1723 : Prm 1723 := prm_small (by decide) (by decide) (by decide +kernel)
theorem prm2437 : Prm 2437 := prm_small (by decide) (by decide) (by decide +kernel)
theorem prm3727 : Prm 3727 := prm_small (by decide) (by decide) (by decide +kernel)
theorem prm4153 : Prm 4153 := prm_small (by decide) (by decide) (by decide +kernel)
theorem prm37853 : Prm 37853 := prm_small (by decide) (by decide) (by decide +kernel)
theorem prm57467 : Prm 57467 := prm_small (by decide) (by decide) (by decide +kernel)
theorem prm65147 : Prm 65147 := prm_small (by decide) (by decide) (by decide +kernel)
theorem gen75707 : Gen 75707 2 := by
  refine gen_of [2, 37853] (by decide) ?_ (by decide +kernel)
  intro q hq
  simp only [List.mem_cons, List.not_mem_nil, or_false] at hq
  rcases hq with rfl | rfl
  · exact prm2
  · exact prm37853
theorem prm75707 : Prm 75707 := gen75707.prm
theorem gen132049 : Gen 132049 26 := by
  refine gen_of [2, 2, 2, 2, 3, 3, 7, 131] (by decide) ?_ (by decide +kernel)
  intro q hq
  simp only [List.mem_cons, List.not_mem_nil, or_false] at hq
  rcases hq with rfl | rfl | rfl | rfl | rfl | rfl | rfl | rfl
  · exact prm2
  · exact prm2
  · exact prm2
  · exact prm2
  · exact prm3
  · exact prm3
  · exact prm7
  · exact prm131
theorem prm132049 : Prm 132049 := gen132049.prm
theorem gen430751 : Gen 430751 17 := by
  refine gen_of [2, 5, 5, 5, 1723] (by decide) ?_ (by decide +kernel)
  intro q hq
  simp only [List.mem_cons, List.not_mem_nil, or_false] at hq
  rcases hq with rfl | rfl | rfl | rfl | rfl
  · exact prm2
  · exact prm5
  · exact prm5
  · exact prm5
  · exact prm1723
theorem prm430751 : Prm 430751 := gen430751.prm
theorem gen569003 : Gen 569003 2 := by
  refine gen_of [2, 7, 97, 419] (by decide) ?_ (by decide +kernel)
  intro q hq
  simp only [List.mem_cons, List.not_mem_nil, or_false] at hq
  rcases hq with rfl | rfl | rfl | rfl
  · exact prm2
  · exact prm7
  · exact prm97
  · exact prm419
theorem prm569003 : Prm 569003 := gen569003.prm
theorem gen1923133 : Gen 1923133 2 := by
  refine gen_of [2, 2, 3, 43, 3727] (by decide) ?_ (by decide +kernel)
  intro q hq
  simp only [List.mem_cons, List.not_mem_nil, or_false] at hq
  rcases hq with rfl | rfl | rfl | rfl | rfl
  · exact prm2
  · exact prm2
  · exact prm3
  · exact prm43
  · exact prm3727
theorem prm1923133 : Prm 1923133 := gen1923133.prm
theorem gen8574133 : Gen 8574133 2 := by
  refine gen_of [2, 2, 3, 7, 103, 991] (by decide) ?_ (by decide +kernel)
  intro q hq
  simp only [List.mem_cons, List.not_mem_nil, or_false] at hq
  rcases hq with rfl | rfl | rfl | rfl | rfl | rfl
  · exact prm2
  · exact prm2
  · exact prm3
  · exact prm7
  · exact prm103
  · exact prm991
theorem prm8574133 : Prm 8574133 := gen8574133.prm
theorem gen2773320623 : Gen 2773320623 5 := by
  refine gen_of [2, 2437, 569003] (by decide) ?_ (by decide +kernel)
  intro q hq
  simp only [List.mem_cons, List.not_mem_nil, or_false] at hq
  rcases hq with rfl | rfl | rfl
  · exact prm2
  · exact prm2437
  · exact prm569003
theorem prm2773320623 : Prm 2773320623 := gen2773320623.prm
theorem gen72106336199 : Gen 72106336199 7 := by
  refine gen_of [2, 13, 2773320623] (by decide) ?_ (by decide +kernel)
  intro q hq
  simp only [List.mem_cons, List.not_mem_nil, or_false] at hq
  rcases hq with rfl | rfl | rfl
  · exact prm2
  · exact prm13
  · exact prm2773320623
theorem prm72106336199 : Prm 72106336199 := gen72106336199.prm
theorem gen1919519569386763 : Gen 1919519569386763 2 := by
  refine gen_of [2, 3, 7, 19, 47, 47, 127, 8574133] (by decide) ?_ (by decide +kernel)
  intro q hq
  simp only [List.mem_cons, List.not_mem_nil, or_false] at hq
  rcases hq with rfl | rfl | rfl | rfl | rfl | rfl | rfl | rfl
  · exact prm2
  · exact prm3
  · exact prm7
  · exact prm19
  · exact prm47
  · exact prm47
  · exact prm127
  · exact prm8574133
theorem prm1919519569386763 : Prm 1919519569386763 := gen1919519569386763.prm
theorem gen31757755568855353 : Gen 31757755568855353 10 := by
  refine gen_of [2, 2, 2, 3, 31, 107, 223, 4153, 430751] (by decide) ?_ (by decide +kernel)
  intro q hq
  simp only [List.mem_cons, List.not_mem_nil, or_false] at hq
  rcases hq with rfl | rfl | rfl | rfl | rfl | rfl | rfl | rfl | rfl
  · exact prm2
  · exact prm2
  · exact prm2
  · exact prm3
  · exact prm31
  · exact prm107
  · exact prm223
  · exact prm4153
  · exact prm430751
theorem prm31757755568855353 : Prm 31757755568855353 := gen31757755568855353.prm
theorem gen75445702479781427272750846543864801 : Gen 75445702479781427272750846543864801 7 := by
  refine gen_of [2, 2, 2, 2, 2, 3, 3, 5, 5, 75707, 72106336199, 1919519569386763] (by decide) ?_ (by decide +kernel)
  intro q hq
  simp only [List.mem_cons, List.not_mem_nil, or_false] at hq
  rcases hq with rfl | rfl | rfl | rfl | rfl | rfl | rfl | rfl | rfl | rfl | rfl | rfl
  · exact prm2
  · exact prm2
  · exact prm2
  · exact prm2
  · exact prm2
  · exact prm3
  · exact prm3
  · exact prm5
  · exact prm5
  · exact prm75707
  · exact prm72106336199
  · exact prm1919519569386763
theorem prm75445702479781427272750846543864801 : Prm 75445702479781427272750846543864801 := gen75445702479781427272750846543864801.prm
theorem gen74058212732561358302231226437062788676166966415465897661863160754340907 : Gen 74058212732561358302231226437062788676166966415465897661863160754340907 2 := by
  refine gen_of [2, 3, 353, 57467, 132049, 1923133, 31757755568855353, 75445702479781427272750846543864801] (by decide) ?_ (by decide +kernel)
  intro q hq
  simp only [List.mem_cons, List.not_mem_nil, or_false] at hq
  rcases hq with rfl | rfl | rfl | rfl | rfl | rfl | rfl | rfl
  · exact prm2
  · exact prm3
  · exact prm353
  · exact prm57467
  · exact prm132049
  · exact prm1923133
  · exact prm31757755568855353
  · exact prm75445702479781427272750846543864801
theorem prm74058212732561358302231226437062788676166966415465897661863160754340907 : Prm 74058212732561358302231226437062788676166966415465897661863160754340907 := gen74058212732561358302231226437062788676166966415465897661863160754340907.prm
theorem gen57896044618658097711785492504343953926634992332820282019728792003956564819949 : Gen 57896044618658097711785492504343953926634992332820282019728792003956564819949 2 := by
  refine gen_of [2, 2, 3, 65147, 74058212732561358302231226437062788676166966415465897661863160754340907] (by decide) ?_ (by decide +kernel)
  intro q hq
  simp only [List.mem_cons, List.not_mem_nil, or_false] at hq
  rcases hq with rfl | rfl | rfl | rfl | rfl
  · exact prm2
  · exact prm2
  · exact prm3
  · exact prm65147
  · exact prm74058212732561358302231226437062788676166966415465897661863160754340907
theorem prm57896044618658097711785492504343953926634992332820282019728792003956564819949 : Prm 57896044618658097711785492504343953926634992332820282019728792003956564819949 := gen57896044618658097711785492504343953926634992332820282019728792003956564819949.prm
/-- 2^255 - 19. -/
def fP : Nat := 57896044618658097711785492504343953926634992332820282019728792003956564819949
theorem fP_eq : fP = 2 ^ 255 - 19 := by decide
theorem genP : Gen fP 2 := gen57896044618658097711785492504343953926634992332820282019728792003956564819949
end Go.Proofs.YtgofapndgjfnhaaDoor.N
