/-
  Layer 4's reference, Mul and Mod: products and rests of lists of bits; nothing old turns.
-/
import Derived.Test.YtjiaomkjebbkpabBpolyRef
namespace Go.Proofs.Ytjiaomkjebbkpab
open Go.RowKit
set_option linter.unusedVariables false

theorem is01_take {p : List Nat} (h : Is01 p) (k : Nat) : Is01 (p.take k) := fun x hx => h x (List.mem_of_mem_take hx)
theorem is01_mulTo {p q : List Nat} (hp : Is01 p) (hq : Is01 q) (i k : Nat) : Is01 (mulTo p q i k) := by
  intro x hx
  obtain ⟨j, _, rfl⟩ := List.mem_map.1 hx
  unfold mulAt
  have h1 := (is01_mulL (is01_take hp i) hq).cf j
  split
  · rw [gmul_01 (hp.cf i) (hq.cf _)]
    have h2 := hp.cf i
    have h3 := hq.cf (j - i)
    have h4 : cf p i * cf q (j - i) < 2 := by rcases (show cf p i = 0 ∨ cf p i = 1 by omega) with e | e <;> rw [e] <;> omega
    rw [xor_01 h1 h4]; omega
  · rw [Nat.xor_zero]; exact h1
theorem mulTo_eqv (p q : List Nat) : Eqv (mulTo p q p.length 0) (mulL p q) := norm_iff.1 (mulTo_end p q)
theorem step01 {x a b : Nat} (hx : x < 2) (ha : a < 2) (hb : b < 2) : ((x ^^^ gmul a b : Nat) : Int) = ((x : Int) + (a : Int) * (b : Int)) % 2 := by
  have : ∀ x a b : Fin 2, ((x.val ^^^ gmul a.val b.val : Nat) : Int) = ((x.val : Int) + (a.val : Int) * (b.val : Int)) % 2 := by decide +kernel
  exact this ⟨x, hx⟩ ⟨a, ha⟩ ⟨b, hb⟩
theorem mul01 {a b : Nat} (ha : a < 2) (hb : b < 2) : (0 : Int) ≤ (a : Int) * (b : Int) ∧ (a : Int) * (b : Int) ≤ 1 := by
  have : ∀ a b : Fin 2, (0 : Int) ≤ (a.val : Int) * (b.val : Int) ∧ (a.val : Int) * (b.val : Int) ≤ 1 := by decide +kernel
  exact this ⟨a, ha⟩ ⟨b, hb⟩

/-- What Mod holds behind k rounds of its inner loop, from the place s on. -/
def modTo (r q : List Nat) (s k : Nat) : List Nat := (List.range r.length).map fun j => if s ≤ j ∧ j < s + k then cf r j ^^^ cf q (j - s) else cf r j
theorem length_modTo (r q : List Nat) (s k : Nat) : (modTo r q s k).length = r.length := by simp [modTo]
theorem cf_modTo (r q : List Nat) (s k j : Nat) (h : j < r.length) : cf (modTo r q s k) j = if s ≤ j ∧ j < s + k then cf r j ^^^ cf q (j - s) else cf r j := by simp [cf, modTo, h]
theorem modTo_zero (r q : List Nat) (s : Nat) : modTo r q s 0 = r := by
  apply List.ext_getElem
  · rw [length_modTo]
  · intro j h1 h2
    simp only [modTo, List.getElem_map, List.getElem_range]
    rw [if_neg (by omega)]
    unfold cf
    rw [List.getElem?_eq_getElem h2]; rfl
theorem modTo_step (r q : List Nat) (s k : Nat) (h : s + k < r.length) : modTo r q s (k + 1) = (modTo r q s k).set (s + k) (cf (modTo r q s k) (s + k) ^^^ cf q k) := by
  have e0 := cf_modTo r q s k (s + k) h
  rw [if_neg (by omega)] at e0
  apply List.ext_getElem
  · simp [modTo]
  · intro j h1 h2
    rw [List.getElem_set]
    by_cases e : s + k = j
    · subst e
      rw [if_pos rfl, e0]
      simp only [modTo, List.getElem_map, List.getElem_range]
      rw [if_pos (by omega), show s + k - s = k from by omega]
    · rw [if_neg e]
      simp only [modTo, List.getElem_map, List.getElem_range]
      by_cases h : s ≤ j ∧ j < s + k
      · rw [if_pos h, if_pos (by omega)]
      · rw [if_neg h, if_neg (by omega)]
theorem is01_modTo {r q : List Nat} (hr : Is01 r) (hq : Is01 q) (s k : Nat) : Is01 (modTo r q s k) := by
  intro x hx
  obtain ⟨j, _, rfl⟩ := List.mem_map.1 hx
  split
  · rw [xor_01 (hr.cf j) (hq.cf _)]; omega
  · exact hr.cf j
/-- The power s. -/
def xs (s : Nat) : List Nat := List.replicate s 0 ++ [1]
theorem is01_xs (s : Nat) : Is01 (xs s) := by
  intro x hx
  unfold xs at hx
  simp at hx
  omega
theorem cf_mul_xs (q : List Nat) (s j : Nat) (hq : IsP q) : cf (mulL q (xs s)) j = if s ≤ j then cf q (j - s) else 0 := by
  have hz : IsP (List.replicate s 0) := by intro x hx; simp at hx; omega
  rw [mulL_comm q (xs s) hq (is01_xs s).isP j]
  unfold xs
  rw [mulL_snoc (List.replicate s 0) q 1 hz hq (by decide) j, List.length_replicate]
  have hn : Eqv (List.replicate s 0) [] := fun i => by
    unfold cf
    by_cases hi : i < s
    · simp [hi]
    · rw [List.getElem?_eq_none (by simp; omega)]; rfl
  rw [mulL_left q hz (by intro x hx; simp at hx) hq hn j]
  show 0 ^^^ _ = _
  rw [Nat.zero_xor]
  split
  · exact one_gmul _ (cf_lt hq _)
  · rfl
theorem modTo_end (r q : List Nat) (n d : Nat) (hr : Is01 r) (hq : Is01 q) (hn : (norm r).length = n + 1) (hd : (norm q).length = d + 1) (h : d ≤ n) :
    Eqv (modTo r q (n - d) (d + 1)) (addL r (mulL q (xs (n - d)))) ∧ (norm (modTo r q (n - d) (d + 1))).length ≤ n := by
  have hle := norm_length_le r
  have key : ∀ j, cf (modTo r q (n - d) (d + 1)) j = cf r j ^^^ (if n - d ≤ j then cf q (j - (n - d)) else 0) := fun j => by
    by_cases hj : j < r.length
    · rw [cf_modTo r q _ _ j hj]
      by_cases h1 : n - d ≤ j
      · rw [if_pos h1]
        by_cases h2 : j < n - d + (d + 1)
        · rw [if_pos ⟨h1, h2⟩]
        · rw [if_neg (by omega), norm_above q _ (by omega), Nat.xor_zero]
      · rw [if_neg (by omega), if_neg h1, Nat.xor_zero]
    · rw [cf_big _ _ (by rw [length_modTo]; omega), cf_big r j (by omega), Nat.zero_xor, if_pos (by omega), norm_above q _ (by omega)]
  refine ⟨fun j => by rw [key j, cf_addL, cf_mul_xs q _ j hq.isP], norm_len_le _ _ fun j hj => ?_⟩
  rw [key j, if_pos (by omega)]
  have l1 := norm_last r (by intro e; rw [e] at hn; simp at hn)
  have l2 := norm_last q (by intro e; rw [e] at hd; simp at hd)
  rw [cf_norm, hn, show n + 1 - 1 = n from rfl] at l1
  rw [cf_norm, hd, show d + 1 - 1 = d from rfl] at l2
  have b1 := hr.cf n
  have b2 := hq.cf d
  by_cases e : j = n
  · subst e
    rw [show j - (j - d) = d from by omega, show cf r j = 1 from by omega, show cf q d = 1 from by omega]
    rfl
  · rw [norm_above r j (by omega), norm_above q _ (by omega)]; rfl
/-- One round of Mod keeps what is left. -/
theorem mod_round {p q r : List Nat} {n d : Nat} (hq : Is01 q) (hr : Is01 r) (hn : (norm r).length = n + 1) (hd : (norm q).length = d + 1) (h : d ≤ n) (hb : ∃ c, Is01 c ∧ Eqv (addL (mulL q c) r) p) :
    ∃ c, Is01 c ∧ Eqv (addL (mulL q c) (modTo r q (n - d) (d + 1))) p := by
  obtain ⟨c, hc, e⟩ := hb
  refine ⟨addL c (xs (n - d)), is01_addL hc (is01_xs _), fun i => ?_⟩
  rw [cf_addL, mulL_add_right q c (xs (n - d)) i, cf_addL, (modTo_end r q n d hr hq hn hd h).1 i, cf_addL]
  have := e i
  rw [cf_addL] at this
  rw [← this, Nat.xor_comm (cf r i), Nat.xor_assoc, ← Nat.xor_assoc (cf (mulL q (xs (n - d))) i), Nat.xor_self, Nat.zero_xor]
theorem step01' {x b : Nat} (hx : x < 2) (hb : b < 2) : ((x ^^^ b : Nat) : Int) = ((x : Int) + (b : Int)) % 2 := xor_int hx hb

end Go.Proofs.Ytjiaomkjebbkpab
