/-
  The plain mathematics of the field of 8192 elements (numbers below 8192; sums by xor; products less what x^13 + x^4 + x^3 + x + 1 divides): no program text is imported here.
-/
namespace Go.Proofs.Ytjiaomkjebbkpab
set_option linter.unusedVariables false

/-- Twice an element. -/
def shl1 (a : Nat) : Nat := if 2 * a < 8192 then 2 * a else (2 * a) ^^^ 8219
def shlN (a : Nat) : Nat → Nat
  | 0 => a
  | k + 1 => shl1 (shlN a k)
/-- The product by the first k digits of b. -/
def gmulTo (a b : Nat) : Nat → Nat
  | 0 => 0
  | k + 1 => gmulTo a b k ^^^ (if b.testBit k then shlN a k else 0)
def gmul (a b : Nat) : Nat := gmulTo a b 13
def gpow (a : Nat) : Nat → Nat
  | 0 => 1
  | n + 1 => gmul (gpow a n) a

theorem fin_of {P : Nat → Prop} (h : ∀ i : Fin 128, ∀ j : Fin 64, P (64 * i.val + j.val)) (a : Nat) (ha : a < 8192) : P a := by
  have := h ⟨a / 64, by omega⟩ ⟨a % 64, by omega⟩
  rwa [show 64 * (a / 64) + a % 64 = a from by omega] at this

theorem shl1_lt_fin : ∀ i : Fin 128, ∀ j : Fin 64, shl1 (64 * i.val + j.val) < 8192 := by decide +kernel
theorem shl1_eq_fin : ∀ i : Fin 128, ∀ j : Fin 64, shl1 (64 * i.val + j.val) = (2 * (64 * i.val + j.val)) ^^^ (if (64 * i.val + j.val).testBit 12 then 8219 else 0) := by decide +kernel
theorem shl1_lt (a : Nat) (ha : a < 8192) : shl1 a < 8192 := fin_of (P := fun a => shl1 a < 8192) shl1_lt_fin a ha
theorem shl1_eq (a : Nat) (ha : a < 8192) : shl1 a = (2 * a) ^^^ (if a.testBit 12 then 8219 else 0) := fin_of (P := fun a => shl1 a = (2 * a) ^^^ (if a.testBit 12 then 8219 else 0)) shl1_eq_fin a ha

theorem xor_lt (a b : Nat) (ha : a < 8192) (hb : b < 8192) : a ^^^ b < 8192 := @Nat.xor_lt_two_pow a b 13 ha hb
theorem two_mul_xor (a b : Nat) : 2 * (a ^^^ b) = (2 * a) ^^^ (2 * b) := by
  apply Nat.eq_of_testBit_eq
  intro i
  cases i with
  | zero => simp [Nat.testBit_zero]
  | succ i =>
    rw [Nat.testBit_xor, Nat.testBit_succ, Nat.testBit_succ, Nat.testBit_succ, Nat.mul_div_cancel_left _ (by decide), Nat.mul_div_cancel_left _ (by decide), Nat.mul_div_cancel_left _ (by decide), Nat.testBit_xor]

theorem xor_swap (a b c d : Nat) : (a ^^^ b) ^^^ (c ^^^ d) = (a ^^^ c) ^^^ (b ^^^ d) := by
  apply Nat.eq_of_testBit_eq
  intro i
  simp only [Nat.testBit_xor]
  cases a.testBit i <;> cases b.testBit i <;> cases c.testBit i <;> cases d.testBit i <;> rfl

theorem shl1_xor (a b : Nat) (ha : a < 8192) (hb : b < 8192) : shl1 (a ^^^ b) = shl1 a ^^^ shl1 b := by
  rw [shl1_eq a ha, shl1_eq b hb, shl1_eq _ (xor_lt a b ha hb), two_mul_xor, Nat.testBit_xor, xor_swap]
  congr 1
  cases a.testBit 12 <;> cases b.testBit 12 <;> simp

theorem shlN_lt (a k : Nat) (ha : a < 8192) : shlN a k < 8192 := by
  induction k with
  | zero => exact ha
  | succ k ih => exact shl1_lt _ ih
theorem shlN_xor (a b k : Nat) (ha : a < 8192) (hb : b < 8192) : shlN (a ^^^ b) k = shlN a k ^^^ shlN b k := by
  induction k with
  | zero => rfl
  | succ k ih => simp only [shlN]; rw [ih, shl1_xor _ _ (shlN_lt a k ha) (shlN_lt b k hb)]

theorem gmulTo_lt (a b k : Nat) (ha : a < 8192) : gmulTo a b k < 8192 := by
  induction k with
  | zero => show 0 < 8192; decide
  | succ k ih =>
    simp only [gmulTo]
    refine xor_lt _ _ ih ?_
    split
    · exact shlN_lt a k ha
    · decide
theorem gmul_lt (a b : Nat) (ha : a < 8192) : gmul a b < 8192 := gmulTo_lt a b 13 ha

theorem gmulTo_right (a b c k : Nat) : gmulTo a (b ^^^ c) k = gmulTo a b k ^^^ gmulTo a c k := by
  induction k with
  | zero => simp [gmulTo]
  | succ k ih =>
    simp only [gmulTo]
    rw [ih, xor_swap, Nat.testBit_xor]
    congr 1
    cases b.testBit k <;> cases c.testBit k <;> simp
theorem gmulTo_left (a b c k : Nat) (ha : a < 8192) (hb : b < 8192) : gmulTo (a ^^^ b) c k = gmulTo a c k ^^^ gmulTo b c k := by
  induction k with
  | zero => simp [gmulTo]
  | succ k ih =>
    simp only [gmulTo]
    rw [ih, xor_swap, shlN_xor a b k ha hb]
    congr 1
    cases c.testBit k <;> simp
theorem gmul_right (a b c : Nat) : gmul a (b ^^^ c) = gmul a b ^^^ gmul a c := gmulTo_right a b c 13
theorem gmul_left (a b c : Nat) (ha : a < 8192) (hb : b < 8192) : gmul (a ^^^ b) c = gmul a c ^^^ gmul b c := gmulTo_left a b c 13 ha hb

theorem two_pow_xor (k r : Nat) (hr : r < 2 ^ k) : 2 ^ k ^^^ r = 2 ^ k + r := by
  apply Nat.eq_of_testBit_eq
  intro i
  rw [Nat.testBit_xor]
  by_cases h : i = k
  · subst h
    rw [Nat.testBit_two_pow_add_eq, Nat.testBit_lt_two_pow hr]; simp
  · rcases Nat.lt_or_gt_of_ne h with h | h
    · rw [Nat.testBit_two_pow_add_gt h, Nat.testBit_two_pow_of_ne (by omega)]; simp
    · rw [Nat.testBit_lt_two_pow (Nat.lt_of_lt_of_le hr (Nat.pow_le_pow_right (by decide) (by omega))), Nat.testBit_two_pow_of_ne (by omega),
        Nat.testBit_lt_two_pow (Nat.lt_of_lt_of_le (show 2 ^ k + r < 2 ^ (k + 1) by rw [Nat.pow_succ]; omega) (Nat.pow_le_pow_right (by decide) (by omega)))]
      rfl

/-- Two maps that keep sums and agree at the thirteen elements 1, 2, 4 .. agree. -/
theorem lin_ext (f g : Nat → Nat) (hf : ∀ a b, a < 8192 → b < 8192 → f (a ^^^ b) = f a ^^^ f b) (hg : ∀ a b, a < 8192 → b < 8192 → g (a ^^^ b) = g a ^^^ g b)
    (h : ∀ i : Fin 13, f (2 ^ i.val) = g (2 ^ i.val)) (a : Nat) (ha : a < 8192) : f a = g a := by
  have f0 : f 0 = 0 := by have := hf 0 0 (by decide) (by decide); simpa using this
  have g0 : g 0 = 0 := by have := hg 0 0 (by decide) (by decide); simpa using this
  have key : ∀ k, k ≤ 13 → ∀ a, a < 2 ^ k → f a = g a := by
    intro k
    induction k with
    | zero => intro _ a ha; have : a = 0 := by simpa using ha
              rw [this, f0, g0]
    | succ k ih =>
      intro hk a ha
      by_cases hlt : a < 2 ^ k
      · exact ih (by omega) a hlt
      · have hr : a - 2 ^ k < 2 ^ k := by rw [Nat.pow_succ] at ha; omega
        have e : a = 2 ^ k ^^^ (a - 2 ^ k) := by rw [two_pow_xor k _ hr]; omega
        have hkk : 2 ^ k ≤ 2 ^ 12 := Nat.pow_le_pow_right (by decide) (by omega)
        have hkk' : (2 : Nat) ^ 12 = 4096 := by decide
        rw [e, hf _ _ (by omega) (by omega), hg _ _ (by omega) (by omega), ih (by omega) _ hr, h ⟨k, by omega⟩]
  exact key 13 (by omega) a ha

theorem basis_comm : ∀ i j : Fin 13, gmul (2 ^ i.val) (2 ^ j.val) = gmul (2 ^ j.val) (2 ^ i.val) := by decide +kernel
theorem basis_assoc : ∀ i j k : Fin 13, gmul (gmul (2 ^ i.val) (2 ^ j.val)) (2 ^ k.val) = gmul (2 ^ i.val) (gmul (2 ^ j.val) (2 ^ k.val)) := by decide +kernel
theorem basis_lt (i : Fin 13) : 2 ^ i.val < 8192 := Nat.pow_lt_pow_right (a := 2) (by decide) (show i.val < 13 from i.isLt)

theorem gmul_comm (a b : Nat) (ha : a < 8192) (hb : b < 8192) : gmul a b = gmul b a := by
  refine lin_ext (fun a => gmul a b) (fun a => gmul b a) (fun x y hx hy => gmul_left x y b hx hy) (fun x y _ _ => gmul_right b x y) (fun i => ?_) a ha
  exact lin_ext (fun b => gmul (2 ^ i.val) b) (fun b => gmul b (2 ^ i.val)) (fun x y _ _ => gmul_right _ x y) (fun x y hx hy => gmul_left x y _ hx hy) (fun j => basis_comm i j) b hb

theorem gmul_assoc (a b c : Nat) (ha : a < 8192) (hb : b < 8192) (hc : c < 8192) : gmul (gmul a b) c = gmul a (gmul b c) := by
  refine lin_ext (fun a => gmul (gmul a b) c) (fun a => gmul a (gmul b c)) (fun x y hx hy => ?_) (fun x y hx hy => gmul_left x y _ hx hy) (fun i => ?_) a ha
  · show gmul (gmul (x ^^^ y) b) c = _
    rw [gmul_left x y b hx hy, gmul_left _ _ c (gmul_lt x b hx) (gmul_lt y b hy)]
  · refine lin_ext (fun b => gmul (gmul (2 ^ i.val) b) c) (fun b => gmul (2 ^ i.val) (gmul b c)) (fun x y hx hy => ?_) (fun x y hx hy => ?_) (fun j => ?_) b hb
    · show gmul (gmul (2 ^ i.val) (x ^^^ y)) c = _
      rw [gmul_right, gmul_left _ _ c (gmul_lt _ _ (basis_lt i)) (gmul_lt _ _ (basis_lt i))]
    · show gmul (2 ^ i.val) (gmul (x ^^^ y) c) = _
      rw [gmul_left x y c hx hy, gmul_right]
    · refine lin_ext (fun c => gmul (gmul (2 ^ i.val) (2 ^ j.val)) c) (fun c => gmul (2 ^ i.val) (gmul (2 ^ j.val) c)) (fun x y _ _ => gmul_right _ x y) (fun x y _ _ => ?_) (fun k => basis_assoc i j k) c hc
      show gmul (2 ^ i.val) (gmul (2 ^ j.val) (x ^^^ y)) = _
      rw [gmul_right, gmul_right]

theorem basis_one : ∀ i : Fin 13, gmul (2 ^ i.val) 1 = 2 ^ i.val := by decide +kernel
theorem gmul_one (a : Nat) (ha : a < 8192) : gmul a 1 = a :=
  lin_ext (fun a => gmul a 1) (fun a => a) (fun x y hx hy => gmul_left x y 1 hx hy) (fun _ _ _ _ => rfl) basis_one a ha
theorem one_gmul (a : Nat) (ha : a < 8192) : gmul 1 a = a := by rw [gmul_comm 1 a (by decide) ha, gmul_one a ha]
theorem gmul_zero (a : Nat) : gmul a 0 = 0 := by
  have := gmul_right a 0 0
  simpa using this
theorem zero_gmul (a : Nat) (ha : a < 8192) : gmul 0 a = 0 := by rw [gmul_comm 0 a (by decide) ha, gmul_zero]
theorem basis_two : ∀ i : Fin 13, gmul (2 ^ i.val) 2 = shl1 (2 ^ i.val) := by decide +kernel
theorem gmul_two (a : Nat) (ha : a < 8192) : gmul a 2 = shl1 a :=
  lin_ext (fun a => gmul a 2) shl1 (fun x y hx hy => gmul_left x y 2 hx hy) (fun x y hx hy => shl1_xor x y hx hy) basis_two a ha

theorem gpow_lt (a n : Nat) (ha : a < 8192) : gpow a n < 8192 := by
  cases n with
  | zero => show 1 < 8192; decide
  | succ n =>
    have : gpow a n < 8192 := by
      induction n with
      | zero => show 1 < 8192; decide
      | succ n ih => exact gmul_lt _ _ ih
    exact gmul_lt _ _ this
theorem gpow_one (a : Nat) (ha : a < 8192) : gpow a 1 = a := one_gmul a ha
theorem gpow_add (a m n : Nat) (ha : a < 8192) : gpow a (m + n) = gmul (gpow a m) (gpow a n) := by
  induction n with
  | zero => rw [Nat.add_zero]; exact (gmul_one _ (gpow_lt a m ha)).symm
  | succ n ih =>
    show gmul (gpow a (m + n)) a = gmul (gpow a m) (gmul (gpow a n) a)
    rw [ih, gmul_assoc _ _ _ (gpow_lt a m ha) (gpow_lt a n ha) ha]
theorem one_gpow (n : Nat) : gpow 1 n = 1 := by
  induction n with
  | zero => rfl
  | succ n ih => show gmul (gpow 1 n) 1 = 1; rw [ih]; decide
theorem gpow_mul (a m n : Nat) (ha : a < 8192) : gpow a (m * n) = gpow (gpow a m) n := by
  induction n with
  | zero => rfl
  | succ n ih => rw [Nat.mul_succ, gpow_add a _ _ ha, ih]; rfl
theorem gmul_gpow (a b n : Nat) (ha : a < 8192) (hb : b < 8192) : gpow (gmul a b) n = gmul (gpow a n) (gpow b n) := by
  induction n with
  | zero => show 1 = gmul 1 1; decide
  | succ n ih =>
    have h1 := gpow_lt a n ha
    have h2 := gpow_lt b n hb
    show gmul (gpow (gmul a b) n) (gmul a b) = gmul (gmul (gpow a n) a) (gmul (gpow b n) b)
    rw [ih, gmul_assoc _ _ _ h1 h2 (gmul_lt a b ha), ← gmul_assoc (gpow b n) a b h2 ha hb, gmul_comm (gpow b n) a h2 ha, gmul_assoc a _ b ha h2 hb, ← gmul_assoc (gpow a n) a _ h1 ha (gmul_lt _ _ h2)]
theorem zero_gpow (n : Nat) : gpow 0 (n + 1) = 0 := by
  show gmul (gpow 0 n) 0 = 0
  exact gmul_zero _

theorem gsq_xor (a b : Nat) (ha : a < 8192) (hb : b < 8192) : gmul (a ^^^ b) (a ^^^ b) = gmul a a ^^^ gmul b b := by
  rw [gmul_left a b _ ha hb, gmul_right, gmul_right, gmul_comm b a hb ha]
  apply Nat.eq_of_testBit_eq
  intro i
  simp only [Nat.testBit_xor]
  cases (gmul a a).testBit i <;> cases (gmul a b).testBit i <;> cases (gmul b b).testBit i <;> rfl
/-- Squared k times. -/
def sqN (a : Nat) : Nat → Nat
  | 0 => a
  | k + 1 => gmul (sqN a k) (sqN a k)
theorem sqN_lt (a k : Nat) (ha : a < 8192) : sqN a k < 8192 := by
  induction k with
  | zero => exact ha
  | succ k ih => exact gmul_lt _ _ ih
theorem sqN_xor (a b k : Nat) (ha : a < 8192) (hb : b < 8192) : sqN (a ^^^ b) k = sqN a k ^^^ sqN b k := by
  induction k with
  | zero => rfl
  | succ k ih => simp only [sqN]; rw [ih, gsq_xor _ _ (sqN_lt a k ha) (sqN_lt b k hb)]
theorem basis_sq : ∀ i : Fin 13, sqN (2 ^ i.val) 13 = 2 ^ i.val := by decide +kernel
theorem sq13 (a : Nat) (ha : a < 8192) : sqN a 13 = a :=
  lin_ext (fun a => sqN a 13) (fun a => a) (fun x y hx hy => sqN_xor x y 13 hx hy) (fun _ _ _ _ => rfl) basis_sq a ha
theorem sqN_gpow (a k : Nat) (ha : a < 8192) : sqN a k = gpow a (2 ^ k) := by
  induction k with
  | zero => exact (gpow_one a ha).symm
  | succ k ih => simp only [sqN]; rw [ih, ← gpow_add a _ _ ha, Nat.pow_succ, Nat.mul_two]
theorem gpow_8192 (a : Nat) (ha : a < 8192) : gpow a 8192 = a := by
  have := sqN_gpow a 13 ha
  rw [sq13 a ha] at this
  exact this.symm

theorem idem_fin : ∀ i : Fin 128, ∀ j : Fin 64, gmul (64 * i.val + j.val) (64 * i.val + j.val) = 64 * i.val + j.val → 64 * i.val + j.val = 0 ∨ 64 * i.val + j.val = 1 := by decide +kernel
theorem idem (y : Nat) (hy : y < 8192) (h : gmul y y = y) : y = 0 ∨ y = 1 := fin_of (P := fun y => gmul y y = y → y = 0 ∨ y = 1) idem_fin y hy h

/-- The power 8191 of each element but 0 is 1. -/
theorem gpow_8191 (a : Nat) (ha : a < 8192) (h0 : a ≠ 0) : gpow a 8191 = 1 := by
  have hy := gpow_lt a 8191 ha
  have e1 : gpow a 8191 = gmul (gpow a 8190) a := rfl
  have e : gmul (gpow a 8191) (gpow a 8191) = gpow a 8191 := by
    rw [← gpow_add a _ _ ha, show 8191 + 8191 = 8192 + 8190 from rfl, gpow_add a _ _ ha, gpow_8192 a ha, gmul_comm a _ ha (gpow_lt a 8190 ha)]
    rfl
  rcases idem _ hy e with h | h
  · exfalso
    have h2 := gpow_8192 a ha
    rw [show 8192 = 8191 + 1 from rfl, gpow_add a _ _ ha, h, zero_gmul _ (gpow_lt a 1 ha)] at h2
    exact h0 h2.symm
  · exact h

end Go.Proofs.Ytjiaomkjebbkpab
