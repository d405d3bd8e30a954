/-
  The plain mathematics of layer 5's code: the least polynomial as a product over conjugates; what has a root is divided by its least polynomial; all sums 0 just where the generator divides; a word that is not 0 with 2t sums 0 has more than 2t ones.
-/
import Derived.Test.YtgamakejaknagaaGreatPackE
namespace Go.Proofs.YtgamakejaknagaaGreat
set_option linter.unusedVariables false
set_option maxRecDepth 8192

/-! The product over conjugates. -/
def conjp (x : Nat) : Nat → List Nat
  | 0 => [1]
  | k + 1 => mulL [sqN x k, 1] (conjp x k)
theorem isP_one1 : IsP [1] := fun x hx => by simp at hx; omega
theorem isP_conjp (x k : Nat) (hx : x < 8192) : IsP (conjp x k) := by
  cases k with
  | zero => exact isP_one1
  | succ k => exact isP_mulL _ (isP_lin1 (sqN_lt x k hx))
theorem conjp_len (x k : Nat) (hx : x < 8192) : (norm (conjp x k)).length = k + 1 := by
  induction k with
  | zero => show (norm [1]).length = 1; decide
  | succ k ih =>
    have hne : norm (conjp x k) ≠ [] := by intro e; rw [e] at ih; simp at ih
    have := mulL_length [sqN x k, 1] (conjp x k) (isP_lin1 (sqN_lt x k hx)) (isP_conjp x k hx) (by rw [norm_lin1]; simp) hne
    rw [norm_lin1, ih] at this
    show (norm (mulL [sqN x k, 1] (conjp x k))).length = _
    rw [this]
    simp
    omega
theorem conjp_high (x k i : Nat) (hx : x < 8192) (h : k < i) : cf (conjp x k) i = 0 := by
  have := conjp_len x k hx
  exact norm_above _ _ (by omega)
theorem conjp_top (x k : Nat) (hx : x < 8192) : cf (conjp x k) k = 1 := by
  induction k with
  | zero => rfl
  | succ k ih =>
    have hd := (mulL_deg [sqN x k, 1] (conjp x k) 1 k (isP_lin1 (sqN_lt x k hx)) (isP_conjp x k hx) (fun i hi => cf_big _ _ (by simp; omega)) (fun i hi => conjp_high x k i hx hi)).1
    show cf (mulL [sqN x k, 1] (conjp x k)) (k + 1) = 1
    rw [Nat.add_comm k 1, hd, ih]
    show gmul 1 1 = 1
    decide
theorem evl_conjp (x k y : Nat) (hx : x < 8192) (hy : y < 8192) : evl (conjp x (k + 1)) y = gmul (sqN x k ^^^ y) (evl (conjp x k) y) := by
  show evl (mulL [sqN x k, 1] (conjp x k)) y = _
  rw [evl_mul _ _ y (isP_lin1 (sqN_lt x k hx)) (isP_conjp x k hx) hy, evl_lin1 _ y hy]
theorem conjp_zero_iff (x k y : Nat) (hx : x < 8192) (hy : y < 8192) : evl (conjp x k) y = 0 ↔ ∃ j, j < k ∧ sqN x j = y := by
  induction k with
  | zero =>
    constructor
    · intro h
      exfalso
      have e : evl [1] y = 1 := by show 1 ^^^ gmul y 0 = 1; rw [gmul_zero]; rfl
      have h' : evl [1] y = 0 := h
      rw [e] at h'
      exact absurd h' (by decide)
    · rintro ⟨j, hj, _⟩
      omega
  | succ k ih =>
    rw [evl_conjp x k y hx hy]
    have hl := xor_lt _ _ (sqN_lt x k hx) hy
    have hv := evl_lt (isP_conjp x k hx) y hy
    constructor
    · intro h
      rcases Decidable.em (sqN x k ^^^ y = 0) with h1 | h1
      · exact ⟨k, by omega, xor_zero_eq h1⟩
      · rcases Decidable.em (evl (conjp x k) y = 0) with h2 | h2
        · obtain ⟨j, hj, e⟩ := ih.1 h2
          exact ⟨j, by omega, e⟩
        · exact absurd h (gmul_ne_zero _ _ hl hv h1 h2)
    · rintro ⟨j, hj, e⟩
      by_cases hjk : j = k
      · subst hjk
        rw [e, Nat.xor_self, zero_gmul _ hv]
      · rw [ih.2 ⟨j, by omega, e⟩, gmul_zero]
/-- The least polynomial of an element that is neither 0 nor 1 is the product over its conjugates. -/
theorem minp_conjp (x : Nat) (hx : x < 8192) (h0 : x ≠ 0) (h1 : x ≠ 1) : Eqv (conjp x 13) (minp x) := by
  have hm := minp_is x hx h0
  have hl := hm.len
  rw [if_neg h1] at hl
  have hP := isP_addL (isP_conjp x 13 hx) hm.h01.isP
  have hle : (norm (addL (conjp x 13) (minp x))).length ≤ 13 := norm_len_le _ _ fun i hi => by
    rw [cf_addL]
    rcases (show i = 13 ∨ 13 < i by omega) with rfl | h
    · rw [conjp_top x 13 hx, is01_last hm.h01 hm.nm hl]; rfl
    · rw [conjp_high x 13 i hx h, cf_big _ _ (by omega)]; rfl
  have hz : norm (addL (conjp x 13) (minp x)) = [] := by
    rcases Decidable.em (norm (addL (conjp x 13) (minp x)) = []) with e | e
    · exact e
    · exfalso
      have hnd : ((List.range 13).map (sqN x)).Nodup := by
        rw [List.Nodup, List.pairwise_map]
        refine List.Pairwise.imp_of_mem ?_ (List.pairwise_lt_range (n := 13))
        intro i j _ hj hlt he
        exact sqN_ne hx h0 h1 hlt (List.mem_range.1 hj) he
      have := roots_lt _ _ hP e hnd fun r hr => by
        obtain ⟨k, hk, rfl⟩ := List.mem_map.1 hr
        have hk := List.mem_range.1 hk
        refine ⟨sqN_lt x k hx, ?_⟩
        rw [evl_add, (conjp_zero_iff x 13 _ hx (sqN_lt x k hx)).2 ⟨k, hk, rfl⟩, evl_sqN hm.h01 x hx hm.val k]
        rfl
      simp at this
      omega
  exact fun i => by
    have := (norm_nil_iff _).1 hz i
    rw [cf_addL] at this
    exact xor_zero_eq this
/-- Its roots are the conjugates. -/
theorem minp_roots (x y : Nat) (hx : x < 8192) (h0 : x ≠ 0) (h1 : x ≠ 1) (hy : y < 8192) : evl (minp x) y = 0 ↔ ∃ j, j < 13 ∧ sqN x j = y := by
  rw [← evl_eqv y (minp_conjp x hx h0 h1)]
  exact conjp_zero_iff x 13 y hx hy

/-! Rests there are. -/
theorem mod_exists (q : List Nat) (hq : Is01 q) (hn : norm q ≠ []) : ∀ (n : Nat) (p : List Nat), Is01 p → (norm p).length ≤ n → ∃ r, IsMod p q r := by
  intro n
  induction n with
  | zero =>
    intro p hp hl
    refine ⟨p, hp, ⟨[], fun x hx => absurd hx (by simp), fun i => by rw [cf_addL, mulL_nil q i]; show 0 ^^^ _ = _; rw [Nat.zero_xor]⟩, ?_⟩
    have := List.length_pos_iff.2 hn
    omega
  | succ n ih =>
    intro p hp hl
    by_cases hs : (norm p).length < (norm q).length
    · exact ⟨p, hp, ⟨[], fun x hx => absurd hx (by simp), fun i => by rw [cf_addL, mulL_nil q i]; show 0 ^^^ _ = _; rw [Nat.zero_xor]⟩, hs⟩
    · have hqp := List.length_pos_iff.2 hn
      obtain ⟨d, hd⟩ : ∃ d, (norm q).length = d + 1 := ⟨(norm q).length - 1, by omega⟩
      obtain ⟨m, hm⟩ : ∃ m, (norm p).length = m + 1 := ⟨(norm p).length - 1, by omega⟩
      have he := modTo_end p q m d hp hq hm hd (by omega)
      obtain ⟨r, hr⟩ := ih (modTo p q (m - d) (d + 1)) (is01_modTo hp hq _ _) (by omega)
      obtain ⟨c, hc, e⟩ := hr.back
      refine ⟨r, hr.hr, ⟨addL c (xs (m - d)), is01_addL hc (is01_xs _), fun i => ?_⟩, hr.short⟩
      have h1 := e i
      have h2 := he.1 i
      rw [cf_addL] at h1 h2
      rw [cf_addL, mulL_add_right q c _ i, cf_addL]
      rw [h2] at h1
      have h3 : cf (mulL q c) i ^^^ cf r i ^^^ cf (mulL q (xs (m - d))) i = cf p i := by
        rw [h1, Nat.xor_assoc, Nat.xor_self, Nat.xor_zero]
      rw [← h3, Nat.xor_assoc, Nat.xor_comm (cf (mulL q (xs (m - d))) i), ← Nat.xor_assoc]
/-- What has a root is divided by its least polynomial. -/
theorem minp_divides (x : Nat) (p : List Nat) (hx : x < 8192) (h0 : x ≠ 0) (h1 : x ≠ 1) (hp : Is01 p) (hv : evl p x = 0) : ∃ a, Is01 a ∧ Eqv (mulL (minp x) a) p := by
  have hm := minp_is x hx h0
  have hl := hm.len
  rw [if_neg h1] at hl
  have hn : norm (minp x) ≠ [] := by rw [hm.nm]; intro e; rw [e] at hl; simp at hl
  obtain ⟨r, hr⟩ := mod_exists (minp x) hm.h01 hn _ p hp (Nat.le_refl _)
  obtain ⟨a, ha, e⟩ := hr.back
  have hrv : evl r x = 0 := by
    have := evl_eqv x e
    rw [evl_add, evl_mul _ _ x hm.h01.isP ha.isP hx, hm.val, zero_gmul _ (evl_lt ha.isP x hx), Nat.zero_xor, hv] at this
    exact this
  have hrz : norm r = [] := by
    rcases Decidable.em (norm r = []) with e | e
    · exact e
    · exfalso
      have h2 := least hr.hr e hx h0 h1 hrv
      have h3 := hr.short
      rw [hm.nm, hl] at h3
      omega
  refine ⟨a, ha, fun i => ?_⟩
  have := e i
  rw [cf_addL, (norm_nil_iff r).1 hrz i, Nat.xor_zero] at this
  exact this

/-- The conjugates of w's odd powers up to 15 are apart. -/
theorem odd_apart_fin : ∀ i j : Fin 8, ∀ m : Fin 13, i ≠ j → ((2 * i.val + 1) * 2 ^ m.val) % 8191 ≠ 2 * j.val + 1 := by decide +kernel
theorem odd_apart (i j m : Nat) (hi : i < 8) (hj : j < 8) (hm : m < 13) (hne : i ≠ j) : sqN (gpow 2 (2 * i + 1)) m ≠ gpow 2 (2 * j + 1) := by
  intro h
  rw [sqN_gpow _ m (pow2_ok _).1, ← gpow_mul 2 _ _ (by decide), gpow_mod 2 _ (by decide) (by decide)] at h
  have := two_inj _ _ (Nat.mod_lt _ (by decide)) (by omega) h
  exact odd_apart_fin ⟨i, hi⟩ ⟨j, hj⟩ ⟨m, hm⟩ (fun e => hne (Fin.mk.inj e)) this
theorem minp_odd_ne (i j : Nat) (hi : i < 8) (hj : j < 8) (hne : i ≠ j) : evl (minp (gpow 2 (2 * i + 1))) (gpow 2 (2 * j + 1)) ≠ 0 := by
  intro h
  obtain ⟨m, hm, e⟩ := (minp_roots _ _ (pow2_ok _).1 (pow2_ok _).2 (pow2_ne_one _ (by omega) (by omega)) (pow2_ok _).1).1 h
  exact odd_apart i j m hi hj hm hne e
theorem gen_odd_ne (k j : Nat) (hk : k ≤ j) (hj : j < 8) : evl (genTo k) (gpow 2 (2 * j + 1)) ≠ 0 := by
  induction k with
  | zero =>
    show evl [1] _ ≠ 0
    have e : evl [1] (gpow 2 (2 * j + 1)) = 1 := by show 1 ^^^ gmul _ 0 = 1; rw [gmul_zero]; rfl
    rw [e]
    decide
  | succ k ih =>
    rw [evl_genTo k _ (pow2_ok _).1]
    exact gmul_ne_zero _ _ (evl_lt (is01_genTo k).isP _ (pow2_ok _).1) (evl_lt (minp_is _ (pow2_ok _).1 (pow2_ok _).2).h01.isP _ (pow2_ok _).1) (ih (by omega)) (minp_odd_ne k j (by omega) hj (by omega))
/-- What has the value 0 at w's powers 1, 3 .. is divided by the generator. -/
theorem gen_divides (t : Nat) (ht : t ≤ 8) (p : List Nat) (hp : Is01 p) (hv : ∀ k, k < t → evl p (gpow 2 (2 * k + 1)) = 0) : ∃ a, Is01 a ∧ Eqv (mulL (genTo t) a) p := by
  induction t with
  | zero => exact ⟨p, hp, mulL_one p hp.isP⟩
  | succ t ih =>
    obtain ⟨a, ha, e⟩ := ih (by omega) fun k hk => hv k (by omega)
    have hy := pow2_ok (2 * t + 1)
    have hav : evl a (gpow 2 (2 * t + 1)) = 0 := by
      have h1 := hv t (by omega)
      rw [← evl_eqv _ e, evl_mul _ _ _ (is01_genTo t).isP ha.isP hy.1] at h1
      rcases Decidable.em (evl a (gpow 2 (2 * t + 1)) = 0) with h | h
      · exact h
      · exact absurd h1 (gmul_ne_zero _ _ (evl_lt (is01_genTo t).isP _ hy.1) (evl_lt ha.isP _ hy.1) (gen_odd_ne t t (Nat.le_refl _) (by omega)) h)
    obtain ⟨b, hb, f⟩ := minp_divides _ a hy.1 hy.2 (pow2_ne_one _ (by omega) (by omega)) ha hav
    have hmin := (minp_is _ hy.1 hy.2).h01
    refine ⟨b, hb, ?_⟩
    refine (mulL_left b (is01_genTo (t + 1)).isP (is01_mulL (is01_genTo t) hmin).isP hb.isP (norm_eqv _)).trans ?_
    refine (mulL_assoc _ _ _ (is01_genTo t).isP hmin.isP hb.isP).trans ?_
    exact (mulL_right _ f).trans e
/-- All sums 0 just where the generator divides. -/
theorem code_iff (t : Nat) (ht : t ≤ 8) (p : List Nat) (hp : Is01 p) : (∀ i, 1 ≤ i → i ≤ 2 * t → evl p (gpow 2 i) = 0) ↔ ∃ a, Is01 a ∧ Eqv (mulL (genTo t) a) p := by
  constructor
  · intro h
    exact gen_divides t ht p hp fun k hk => h _ (by omega) (by omega)
  · rintro ⟨a, ha, e⟩ i h1 h2
    have hy := pow2_ok i
    rw [← evl_eqv _ e, evl_mul _ _ _ (is01_genTo t).isP ha.isP hy.1, evl_gen t i (by omega) h2, zero_gmul _ (evl_lt ha.isP _ hy.1)]

/-! How far code words are apart. -/
def xsum (f : Nat → Nat) : List Nat → Nat
  | [] => 0
  | i :: l => f i ^^^ xsum f l
theorem xsum_append (f : Nat → Nat) (l m : List Nat) : xsum f (l ++ m) = xsum f l ^^^ xsum f m := by
  induction l with
  | nil => show _ = 0 ^^^ _; rw [Nat.zero_xor]; rfl
  | cons i l ih => show f i ^^^ xsum f (l ++ m) = (f i ^^^ xsum f l) ^^^ _; rw [ih, Nat.xor_assoc]
theorem xsum_lt {f : Nat → Nat} (h : ∀ i, f i < 8192) (l : List Nat) : xsum f l < 8192 := by
  induction l with
  | nil => show 0 < 8192; decide
  | cons i l ih => exact xor_lt _ _ (h i) ih
theorem xsum_xor (f g : Nat → Nat) (l : List Nat) : xsum (fun i => f i ^^^ g i) l = xsum f l ^^^ xsum g l := by
  induction l with
  | nil => show 0 = 0 ^^^ 0; rw [Nat.xor_self]
  | cons i l ih => show (f i ^^^ g i) ^^^ xsum _ l = (f i ^^^ xsum f l) ^^^ (g i ^^^ xsum g l); rw [ih, xor_swap]
theorem xsum_mul (a : Nat) (f : Nat → Nat) (l : List Nat) : xsum (fun i => gmul a (f i)) l = gmul a (xsum f l) := by
  induction l with
  | nil => show 0 = gmul a 0; rw [gmul_zero]
  | cons i l ih => show gmul a (f i) ^^^ xsum _ l = gmul a (f i ^^^ xsum f l); rw [ih, gmul_right]
theorem xsum_congr {f g : Nat → Nat} {l : List Nat} (h : ∀ i ∈ l, f i = g i) : xsum f l = xsum g l := by
  induction l with
  | nil => rfl
  | cons i l ih => show f i ^^^ xsum f l = g i ^^^ xsum g l; rw [h i (List.mem_cons_self), ih fun j hj => h j (List.mem_cons_of_mem _ hj)]
theorem xsum_zero {f : Nat → Nat} {l : List Nat} (h : ∀ i ∈ l, f i = 0) : xsum f l = 0 := by
  induction l with
  | nil => rfl
  | cons i l ih => show f i ^^^ xsum f l = 0; rw [h i (List.mem_cons_self), ih fun j hj => h j (List.mem_cons_of_mem _ hj)]; rfl
/-- The places of the ones. -/
def supp (p : List Nat) : List Nat := (List.range p.length).filter fun i => cf p i == 1
theorem mem_supp {p : List Nat} {i : Nat} : i ∈ supp p ↔ i < p.length ∧ cf p i = 1 := by simp [supp]
theorem nodup_supp (p : List Nat) : (supp p).Nodup := List.Pairwise.filter _ List.nodup_range
theorem cf_take (p : List Nat) (k i : Nat) (h : i < k) : cf (p.take k) i = cf p i := by unfold cf; rw [List.getElem?_take, if_pos h]
theorem supp_take (p : List Nat) (k : Nat) (hk : k ≤ p.length) : supp (p.take k) = (List.range k).filter fun i => cf p i == 1 := by
  unfold supp
  rw [List.length_take, Nat.min_eq_left hk]
  apply List.filter_congr
  intro i hi
  rw [cf_take p k i (List.mem_range.1 hi)]
/-- A value is the sum of the powers at the ones. -/
theorem evl_supp {p : List Nat} (hp : Is01 p) (x : Nat) (hx : x < 8192) : evl p x = xsum (gpow x) (supp p) := by
  have key : ∀ k, k ≤ p.length → evl (p.take k) x = xsum (gpow x) (supp (p.take k)) := by
    intro k
    induction k with
    | zero => intro _; rfl
    | succ k ih =>
      intro hk
      have h1 := ih (by omega)
      have c1 := hp.cf k
      have hl := gpow_lt x k hx
      rw [supp_take p (k + 1) hk, List.range_succ, List.filter_append, xsum_append, ← supp_take p k (by omega), ← h1, take_snoc_nat p k (by omega),
        evl_snoc _ _ x (by omega) (isP_take hp.isP k) hx, List.length_take, Nat.min_eq_left (by omega)]
      congr 1
      rcases (show cf p k = 0 ∨ cf p k = 1 by omega) with e | e
      · simp [List.filter, e, xsum, zero_gmul _ hl]
      · simp [List.filter, e, xsum, one_gmul _ hl]
  have := key p.length (Nat.le_refl _)
  rwa [List.take_length] at this
/-- A product of parts x less a root. -/
def prodl : List Nat → List Nat
  | [] => [1]
  | r :: rs => mulL [r, 1] (prodl rs)
theorem isP_prodl {rs : List Nat} (h : IsP rs) : IsP (prodl rs) := by
  cases rs with
  | nil => exact isP_one1
  | cons r rs => exact isP_mulL _ (isP_lin1 (isP_cons h).1)
theorem prodl_len {rs : List Nat} (h : IsP rs) : (norm (prodl rs)).length = rs.length + 1 := by
  induction rs with
  | nil => show (norm [1]).length = 1; decide
  | cons r rs ih =>
    obtain ⟨hr, hrs⟩ := isP_cons h
    have ih := ih hrs
    have := mulL_length [r, 1] (prodl rs) (isP_lin1 hr) (isP_prodl hrs) (by rw [norm_lin1]; simp) (by intro e; rw [e] at ih; simp at ih)
    rw [norm_lin1, ih] at this
    show (norm (mulL [r, 1] (prodl rs))).length = _
    rw [this]
    simp
    omega
theorem evl_prodl_zero {rs : List Nat} (h : IsP rs) (y : Nat) (hy : y < 8192) : evl (prodl rs) y = 0 ↔ y ∈ rs := by
  induction rs with
  | nil =>
    have e : evl [1] y = 1 := by show 1 ^^^ gmul y 0 = 1; rw [gmul_zero]; rfl
    show evl [1] y = 0 ↔ _
    rw [e]
    simp
  | cons r rs ih =>
    obtain ⟨hr, hrs⟩ := isP_cons h
    have hv := evl_lt (isP_prodl hrs) y hy
    show evl (mulL [r, 1] (prodl rs)) y = 0 ↔ _
    rw [evl_mul _ _ y (isP_lin1 hr) (isP_prodl hrs) hy, evl_lin1 r y hy, List.mem_cons, ← ih hrs]
    constructor
    · intro h0
      rcases Decidable.em (r ^^^ y = 0) with h1 | h1
      · exact .inl (xor_zero_eq h1).symm
      · rcases Decidable.em (evl (prodl rs) y = 0) with h2 | h2
        · exact .inr h2
        · exact absurd h0 (gmul_ne_zero _ _ (xor_lt r y hr hy) hv h1 h2)
    · rintro (rfl | h2)
      · rw [Nat.xor_self, zero_gmul _ hv]
      · rw [h2, gmul_zero]
/-- The values of a polynomial without a constant at the powers of w where p has ones sum up to 0, where p's sums are 0. -/
theorem values_sum {p : List Nat} (hp : Is01 p) (n : Nat) (hv : ∀ i, 1 ≤ i → i ≤ n → evl p (gpow 2 i) = 0) {L : List Nat} (hL : IsP L) (h0 : cf L 0 = 0) (hl : L.length ≤ n + 1) :
    xsum (fun i => evl L (gpow 2 i)) (supp p) = 0 := by
  have key : ∀ k, k ≤ L.length → xsum (fun i => evl (L.take k) (gpow 2 i)) (supp p) = 0 := by
    intro k
    induction k with
    | zero => intro _; exact xsum_zero fun i _ => rfl
    | succ k ih =>
      intro hk
      have hc := cf_lt hL k
      have e : xsum (fun i => evl (L.take (k + 1)) (gpow 2 i)) (supp p) = xsum (fun i => evl (L.take k) (gpow 2 i) ^^^ gmul (cf L k) (gpow (gpow 2 k) i)) (supp p) := by
        apply xsum_congr
        intro i _
        show evl (L.take (k + 1)) (gpow 2 i) = _
        rw [take_snoc_nat L k (by omega), evl_snoc _ _ _ hc (isP_take hL k) (pow2_ok i).1, List.length_take, Nat.min_eq_left (by omega)]
        congr 2
        rw [← gpow_mul 2 _ _ (by decide), ← gpow_mul 2 _ _ (by decide), Nat.mul_comm]
      rw [e, xsum_xor, ih (by omega), Nat.zero_xor, xsum_mul]
      have ev : xsum (fun i => gpow (gpow 2 k) i) (supp p) = evl p (gpow 2 k) := (evl_supp hp _ (pow2_ok k).1).symm
      rw [ev]
      by_cases hk0 : k = 0
      · subst hk0
        rw [h0, zero_gmul _ (evl_lt hp.isP _ (pow2_ok 0).1)]
      · rw [hv k (by omega) (by omega), gmul_zero]
  have := key L.length (Nat.le_refl _)
  rwa [List.take_length] at this
/-- **A word that is not 0, of fewer than 8192 places, whose sums 1 to n are 0, has more than n ones.** -/
theorem ones_gt {p : List Nat} (hp : Is01 p) (hlen : p.length ≤ 8191) (n : Nat) (hv : ∀ i, 1 ≤ i → i ≤ n → evl p (gpow 2 i) = 0) (hne : supp p ≠ []) : n < (supp p).length := by
  rcases Nat.lt_or_ge n (supp p).length with h | h
  · exact h
  · exfalso
    have hnd := nodup_supp p
    have hmem : ∀ i ∈ supp p, i < 8191 := fun i hi => by have := (mem_supp.1 hi).1; omega
    cases hS : supp p with
    | nil => exact hne hS
    | cons i0 S =>
      rw [hS] at h hnd hmem
      obtain ⟨hni, hnS⟩ := List.nodup_cons.1 hnd
      have hrs : IsP (S.map (gpow 2)) := by
        intro x hx
        obtain ⟨i, _, rfl⟩ := List.mem_map.1 hx
        exact (pow2_ok i).1
      have hPn : IsP (norm (prodl (S.map (gpow 2)))) := isP_norm (isP_prodl hrs)
      have hL : IsP (0 :: norm (prodl (S.map (gpow 2)))) := isP_zero_cons hPn
      have hlen2 : (0 :: norm (prodl (S.map (gpow 2)))).length ≤ n + 1 := by
        rw [List.length_cons, prodl_len hrs, List.length_map]
        simp at h
        omega
      have hsum := values_sum hp n hv hL rfl hlen2
      rw [hS] at hsum
      have hval : ∀ i, evl (0 :: norm (prodl (S.map (gpow 2)))) (gpow 2 i) = gmul (gpow 2 i) (evl (prodl (S.map (gpow 2))) (gpow 2 i)) := fun i => by
        show 0 ^^^ gmul (gpow 2 i) (evl (norm (prodl (S.map (gpow 2)))) (gpow 2 i)) = _
        rw [Nat.zero_xor, evl_eqv _ (norm_eqv _)]
      have hzero : xsum (fun i => evl (0 :: norm (prodl (S.map (gpow 2)))) (gpow 2 i)) S = 0 := xsum_zero fun i hi => by
        rw [hval i, (evl_prodl_zero hrs _ (pow2_ok i).1).2 (List.mem_map.2 ⟨i, hi, rfl⟩), gmul_zero]
      have h2 : evl (0 :: norm (prodl (S.map (gpow 2)))) (gpow 2 i0) ^^^ xsum (fun i => evl (0 :: norm (prodl (S.map (gpow 2)))) (gpow 2 i)) S = 0 := hsum
      rw [hzero, Nat.xor_zero, hval i0] at h2
      refine gmul_ne_zero _ _ (pow2_ok i0).1 (evl_lt (isP_prodl hrs) _ (pow2_ok i0).1) (pow2_ok i0).2 (fun e => ?_) h2
      obtain ⟨i, hi, e2⟩ := List.mem_map.1 ((evl_prodl_zero hrs _ (pow2_ok i0).1).1 e)
      have := two_inj i i0 (hmem i (List.mem_cons_of_mem _ hi)) (hmem i0 (List.mem_cons_self)) e2
      subst this
      exact hni hi

end Go.Proofs.YtgamakejaknagaaGreat

/-
  Words of layer 5: data and more bits as one polynomial; code words; how far words are apart; one code word at most is near; the more bytes of data are one row.
-/
namespace Go.Proofs.YtgamakejaknagaaGreat
set_option linter.unusedVariables false
set_option maxRecDepth 8192

/-- The first n coefficients. -/
def padB (n : Nat) (p : List Nat) : List Nat := (List.range n).map (cf p)
theorem length_padB (n : Nat) (p : List Nat) : (padB n p).length = n := by simp [padB]
theorem cf_padB (n : Nat) (p : List Nat) (i : Nat) : cf (padB n p) i = if i < n then cf p i else 0 := by
  by_cases h : i < n
  · rw [if_pos h]; simp [cf, padB, h]
  · rw [if_neg h, cf_big _ _ (by rw [length_padB]; omega)]
theorem is01_padB {p : List Nat} (n : Nat) (h : Is01 p) : Is01 (padB n p) := is01_of fun i => by
  rw [cf_padB]
  split
  · exact h.cf i
  · decide
/-- The word of data and more bytes. -/
def wordL (t : Nat) (x m : List Int) : List Nat := padB (13 * t) (bts m) ++ bts x
theorem length_wordL (t : Nat) (x m : List Int) : (wordL t x m).length = 13 * t + 8 * x.length := by simp [wordL, length_padB, length_bts]
theorem cf_append (p q : List Nat) (i : Nat) : cf (p ++ q) i = if i < p.length then cf p i else cf q (i - p.length) := by
  unfold cf
  by_cases h : i < p.length
  · rw [if_pos h, List.getElem?_append_left h]
  · rw [if_neg h, List.getElem?_append_right (by omega)]
theorem cf_wordL (t : Nat) (x m : List Int) (i : Nat) : cf (wordL t x m) i = if i < 13 * t then cf (bts m) i else cf (bts x) (i - 13 * t) := by
  unfold wordL
  rw [cf_append, length_padB]
  split
  · rename_i h; rw [cf_padB, if_pos h]
  · rfl
theorem is01_append {p q : List Nat} (hp : Is01 p) (hq : Is01 q) : Is01 (p ++ q) := fun x hx => by
  rcases List.mem_append.1 hx with h | h
  · exact hp x h
  · exact hq x h
theorem is01_wordL (t : Nat) (x m : List Int) : Is01 (wordL t x m) := is01_append (is01_padB _ (is01_bts m)) (is01_bts x)
/-- A code word: all sums are 0. -/
def code (t : Nat) (p : List Nat) : Prop := ∀ i, 1 ≤ i → i ≤ 2 * t → evl p (gpow 2 i) = 0
theorem code_add {t : Nat} {p q : List Nat} (hp : code t p) (hq : code t q) : code t (addL p q) := fun i h1 h2 => by rw [evl_add, hp i h1 h2, hq i h1 h2]; rfl
/-- In how many of the first n places two are unlike. -/
def distTo (p q : List Nat) : Nat → Nat
  | 0 => 0
  | n + 1 => distTo p q n + (if cf p n = cf q n then 0 else 1)
theorem dist_tri (p q r : List Nat) (n : Nat) : distTo q r n ≤ distTo p q n + distTo p r n := by
  induction n with
  | zero => exact Nat.le_refl _
  | succ n ih =>
    simp only [distTo]
    by_cases h1 : cf p n = cf q n <;> by_cases h2 : cf p n = cf r n
    · rw [if_pos (by omega), if_pos h1, if_pos h2]; omega
    · rw [if_pos h1, if_neg h2]; split <;> omega
    · rw [if_neg h1, if_pos h2]; split <;> omega
    · rw [if_neg h1, if_neg h2]; split <;> omega
theorem dist_supp {p q : List Nat} (hp : Is01 p) (hq : Is01 q) (hl : p.length = q.length) : (supp (addL p q)).length = distTo p q p.length := by
  have hal : (addL p q).length = p.length := by rw [length_addL, ← hl]; omega
  unfold supp
  rw [hal]
  have key : ∀ n, ((List.range n).filter fun i => cf (addL p q) i == 1).length = distTo p q n := by
    intro n
    induction n with
    | zero => rfl
    | succ n ih =>
      rw [List.range_succ, List.filter_append, List.length_append, ih]
      simp only [distTo]
      congr 1
      have h1 := hp.cf n
      have h2 := hq.cf n
      have e : cf (addL p q) n = if cf p n = cf q n then 0 else 1 := by
        rw [cf_addL, xor_01 h1 h2]
        split <;> omega
      simp only [List.filter, e]
      split <;> simp_all
  exact key _
theorem dist_zero {p q : List Nat} {n : Nat} (h : distTo p q n = 0) : ∀ i, i < n → cf p i = cf q i := by
  induction n with
  | zero => intro i hi; omega
  | succ n ih =>
    simp only [distTo] at h
    intro i hi
    by_cases e : i = n
    · subst e
      rcases Decidable.em (cf p i = cf q i) with h1 | h1
      · exact h1
      · rw [if_neg h1] at h; omega
    · exact ih (by omega) i (by omega)
theorem list_ext {p q : List Nat} (hl : p.length = q.length) (h : ∀ i, i < p.length → cf p i = cf q i) : p = q := by
  apply List.ext_getElem hl
  intro i h1 h2
  have := h i h1
  unfold cf at this
  rw [List.getElem?_eq_getElem h1, List.getElem?_eq_getElem h2] at this
  exact this
/-- Two code words that are not the same are more than 2t apart. -/
theorem code_apart {t : Nat} {p q : List Nat} (hp : Is01 p) (hq : Is01 q) (hl : p.length = q.length) (h8 : p.length ≤ 8191) (cp : code t p) (cq : code t q) (hne : p ≠ q) : 2 * t < distTo p q p.length := by
  have hal : (addL p q).length = p.length := by rw [length_addL, ← hl]; omega
  rw [← dist_supp hp hq hl]
  refine ones_gt (is01_addL hp hq) (by omega) (2 * t) (code_add cp cq) fun e => hne ?_
  have h0 : distTo p q p.length = 0 := by rw [← dist_supp hp hq hl, e]; rfl
  exact list_ext hl (dist_zero h0)
/-- One code word at most is within t of a word. -/
theorem near_unique {t : Nat} {p q r : List Nat} (hq : Is01 q) (hr : Is01 r) (l1 : q.length = p.length) (l2 : r.length = p.length) (h8 : p.length ≤ 8191) (cq : code t q) (cr : code t r)
    (d1 : distTo p q p.length ≤ t) (d2 : distTo p r p.length ≤ t) : q = r := by
  rcases Decidable.em (q = r) with h | h
  · exact h
  · exfalso
    have := code_apart hq hr (by omega) (by omega) cq cr h
    have h3 := dist_tri p q r p.length
    rw [l1] at this
    omega

/-- z are the more bytes of x. -/
structure IsEnc (t : Nat) (x z : List Int) : Prop where
  len : z.length = (13 * t + 7) / 8
  isB : IsB z
  above : ∀ i, 13 * t ≤ i → bitI z i = 0
  cw : code t (wordL t x z)
/-- The rest by the generator makes the more bytes. -/
theorem enc_of_mod {t : Nat} {x o : List Int} {r : List Nat} (ht : t ≤ 8) (ho : ∀ i, i < 13 * t → cf (bts o) i = 0) (hm : IsMod (wordL t x o) (genTo t) r) : IsEnc t x (pk (padB (13 * t) r)) := by
  have h01 := is01_padB (13 * t) hm.hr
  have hsh := hm.short
  rw [norm_genTo, length_genTo t ht] at hsh
  have hr0 : ∀ i, 13 * t ≤ i → cf r i = 0 := fun i hi => norm_above r i (by omega)
  refine ⟨by rw [length_pk, length_padB], isB_pk h01, fun i hi => ?_, ?_⟩
  · rw [bitI_pk h01, cf_padB, if_neg (by omega)]; rfl
  · obtain ⟨a, ha, e⟩ := hm.back
    have hE : Eqv (wordL t x (pk (padB (13 * t) r))) (mulL (genTo t) a) := fun i => by
      have h1 := e i
      rw [cf_addL, cf_wordL] at h1
      rw [cf_wordL]
      by_cases hi : i < 13 * t
      · rw [if_pos hi] at h1 ⊢
        rw [ho i hi] at h1
        rw [bts_pk h01 i, cf_padB, if_pos hi]
        exact (xor_zero_eq h1).symm
      · rw [if_neg hi] at h1 ⊢
        rw [hr0 i (by omega), Nat.xor_zero] at h1
        exact h1.symm
    exact (code_iff t ht _ (is01_wordL t x _)).2 ⟨a, ha, hE.symm⟩
/-- What Decode tells: a code word within t, and how far it is. -/
structure IsDec (t : Nat) (x m d k : List Int) (n : Nat) : Prop where
  ld : d.length = x.length
  lk : k.length = (13 * t + 7) / 8
  bd : IsB d
  bk : IsB k
  above : ∀ i, 13 * t ≤ i → bitI k i = 0
  cw : code t (wordL t d k)
  far : distTo (wordL t x m) (wordL t d k) (13 * t + 8 * x.length) = n
  near : n ≤ t
theorem word_inj {t : Nat} {x m x' m' : List Int} (hx : IsB x) (hx' : IsB x') (hm : IsB m) (hm' : IsB m') (lx : x.length = x'.length) (lm : m.length = m'.length) (a : ∀ i, 13 * t ≤ i → bitI m i = 0) (a' : ∀ i, 13 * t ≤ i → bitI m' i = 0)
    (h : wordL t x m = wordL t x' m') : x = x' ∧ m = m' := by
  have hc : ∀ i, cf (wordL t x m) i = cf (wordL t x' m') i := fun i => by rw [h]
  constructor
  · refine bytes_ext hx hx' lx fun i _ => ?_
    have := hc (13 * t + i)
    rw [cf_wordL, cf_wordL, if_neg (by omega), if_neg (by omega), Nat.add_sub_cancel_left] at this
    rw [← cf_bts_int, ← cf_bts_int, this]
  · refine bytes_ext hm hm' lm fun i _ => ?_
    by_cases hi : i < 13 * t
    · have := hc i
      rw [cf_wordL, cf_wordL, if_pos hi, if_pos hi] at this
      rw [← cf_bts_int, ← cf_bts_int, this]
    · rw [a i (by omega), a' i (by omega)]
theorem dec_unique {t : Nat} {x m d k d' k' : List Int} {n n' : Nat} (h8 : 13 * t + 8 * x.length ≤ 8191) (h : IsDec t x m d k n) (h' : IsDec t x m d' k' n') : d = d' ∧ k = k' ∧ n = n' := by
  have l := length_wordL t x m
  have e := near_unique (p := wordL t x m) (is01_wordL t d k) (is01_wordL t d' k') (by rw [length_wordL, length_wordL, h.ld]) (by rw [length_wordL, length_wordL, h'.ld]) (by omega) h.cw h'.cw
    (by rw [l, h.far]; exact h.near) (by rw [l, h'.far]; exact h'.near)
  obtain ⟨e1, e2⟩ := word_inj h.bd h'.bd h.bk h'.bk (by rw [h.ld, h'.ld]) (by rw [h.lk, h'.lk]) h.above h'.above e
  exact ⟨e1, e2, by rw [← h.far, ← h'.far, e]⟩
end Go.Proofs.YtgamakejaknagaaGreat

/-
  Layer 5's reference (casemateref05): Bytes, May, Word, Apart, Sums, Is give what the plain functions give; nothing old turns.
-/
namespace Go.Proofs.YtgamakejaknagaaGreat
open Go.RowKit
set_option linter.unusedVariables false
set_option maxRecDepth 8192

/-- What a call owns stays as it is where nothing old turns. -/
theorem owns_below {w w' : World} {base : Nat} {e : TypeId} {size : Nat} {v : Value} {n : Nat} {xs : List Value} (h : w.ownsRow base e size v n xs) (hb : Below w.heap.size w w') : w'.ownsRow base e size v n xs := by
  refine ⟨h.1, ?_⟩
  rcases h.2 with h2 | ⟨g, cap, cur, hv, hg, hh, r⟩
  · exact .inl h2
  · have hlt : g < w.heap.size := by
      rcases Nat.lt_or_ge g w.heap.size with hh' | hh'
      · exact hh'
      · rw [Array.getElem?_eq_none hh'] at hh; simp at hh
    exact .inr ⟨g, cap, cur, hv, hg, by rw [hb.block g hlt]; exact hh, r⟩

/-- May t, so many bytes of data and so many more bytes be? -/
def mayB (t : Int) (len : Nat) (m : Int) : Bool := decide (1 ≤ t ∧ t ≤ 8 ∧ 1 ≤ len ∧ len ≤ 512 ∧ m = (13 * t + 7) / 8)
/-- The sums of a word. -/
def sumsTo (p : List Nat) (n : Nat) : List Nat := (List.range n).map fun i => evl p (gpow 2 (i + 1))
theorem length_sumsTo (p : List Nat) (n : Nat) : (sumsTo p n).length = n := by simp [sumsTo]
theorem cf_sumsTo (p : List Nat) (n i : Nat) (h : i < n) : cf (sumsTo p n) i = evl p (gpow 2 (i + 1)) := by simp [cf, sumsTo, h]
end Go.Proofs.YtgamakejaknagaaGreat

/-
  Layer 5's reference, on: Is, generator, padded, Encode; nothing old turns.
-/
namespace Go.Proofs.YtgamakejaknagaaGreat
open Go.RowKit
set_option linter.unusedVariables false
set_option maxRecDepth 8192

/-- What the reference's product by x + X holds behind i rounds, at the place j; and with the first half of the next round. -/
def qAt (p : List Nat) (x i h j : Nat) : Nat := (if j < i + h then gmul (cf p j) x else 0) ^^^ (if 1 ≤ j ∧ j ≤ i then cf p (j - 1) else 0)
def qTo (p : List Nat) (x i h : Nat) : List Nat := (List.range (p.length + 1)).map (qAt p x i h)
/-- The reference's product over the first k conjugates. -/
def cl (x : Nat) : Nat → List Nat
  | 0 => [1]
  | k + 1 => qTo (cl x k) (sqN x k) (cl x k).length 0
end Go.Proofs.YtgamakejaknagaaGreat

/-
  Layer 5's reference, Encode: the more bytes of data; nothing old turns.
-/
namespace Go.Proofs.YtgamakejaknagaaGreat
open Go.RowKit
set_option linter.unusedVariables false
set_option maxRecDepth 8192

theorem isB_noughts (n : Nat) : IsB (List.replicate n 0) := fun x hx => by
  have := List.eq_of_mem_replicate hx
  omega

end Go.Proofs.YtgamakejaknagaaGreat

/-
  What the code of layer 5 (bch) must return, function by function (the face that the laws' walks lean on), and awake and small of the laws.
-/
namespace Go.Proofs.YtgamakejaknagaaGreat
open Go.RowKit
set_option linter.unusedVariables false
set_option maxRecDepth 8192

/-- A call hands back the bytes d and k, the number n and the error number f. -/
def Gives4 (w : World) (d k : List Int) (n : Nat) (f : Int) (e : Ending) (w' : World) : Prop :=
  ∃ a cap b cap', e = .returned (.tuple #[.slice a d.length cap, .slice b k.length cap', .int .i64 n, .int .i64 f]) ∧ Row .u8 w' a d.length cap d ∧ Row .u8 w' b k.length cap' k ∧ Below w.heap.size w w'

structure HBitsC : Prop where
  no : ∀ (t : Int) (w : World), t < 1 ∨ 8 < t → -9223372036854775808 ≤ t → t ≤ 9223372036854775807 → Calls Tryz.prog 145 #[.int .i64 t] w fun e w' => e = .returned (.tuple #[.int .i64 0, .int .i64 1]) ∧ Below w.heap.size w w'
  yes : ∀ (t : Nat) (w : World), 1 ≤ t → t ≤ 8 → Calls Tryz.prog 145 #[.int .i64 t] w fun e w' => e = .returned (.tuple #[.int .i64 (13 * t : Nat), .int .i64 0]) ∧ Below w.heap.size w w'
structure HEncC : Prop where
  no : ∀ (t : Int) (a : Option Addr) (len cap : Nat) (x : List Int) (w : World), Row .u8 w a len cap x → IsB x → len ≤ 100 → t < 1 ∨ 8 < t ∨ len = 0 → -9223372036854775808 ≤ t → t ≤ 9223372036854775807 →
    Calls Tryz.prog 125 #[.int .i64 t, .slice a len cap] w (GivesE w [] 1)
  yes : ∀ (t : Nat) (a : Option Addr) (len cap : Nat) (x : List Int) (w : World), Row .u8 w a len cap x → IsB x → len ≤ 100 → 1 ≤ t → t ≤ 8 → 1 ≤ len →
    Calls Tryz.prog 125 #[.int .i64 t, .slice a len cap] w fun e w' => ∃ z, IsEnc t x z ∧ GivesE w z 0 e w'
structure HDecC : Prop where
  no : ∀ (t : Int) (a c : Option Addr) (len cap len' cap' : Nat) (x m : List Int) (w : World), Row .u8 w a len cap x → IsB x → Row .u8 w c len' cap' m → IsB m → len ≤ 100 → len' ≤ 100 → mayB t len (len' : Nat) = false → -9223372036854775808 ≤ t → t ≤ 9223372036854775807 →
    Calls Tryz.prog 135 #[.int .i64 t, .slice a len cap, .slice c len' cap'] w (Gives4 w [] [] 0 1)
  yes : ∀ (t : Nat) (a c : Option Addr) (len cap len' cap' : Nat) (x m : List Int) (w : World), Row .u8 w a len cap x → IsB x → Row .u8 w c len' cap' m → IsB m → len ≤ 100 → len' ≤ 100 → mayB t len (len' : Nat) = true →
    Calls Tryz.prog 135 #[.int .i64 t, .slice a len cap, .slice c len' cap'] w fun e w' => (∃ d k n, IsDec t x m d k n ∧ Gives4 w d k n 0 e w') ∨ ((∀ d k n, ¬ IsDec t x m d k n) ∧ Gives4 w [] [] 0 50 e w')

end Go.Proofs.YtgamakejaknagaaGreat
