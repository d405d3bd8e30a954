/-
  Plain mathematics for the code of layer 3 (poly): the normal list of a function of places, asked from the top down; products place by place; long division from the top down.
-/
import Derived.Test.YtjiaomkjebbkpabPolyPlain
namespace Go.Proofs.Ytjiaomkjebbkpab
set_option linter.unusedVariables false

/-- The first n of g. -/
def tabL (g : Nat → Nat) (n : Nat) : List Nat := (List.range n).map g
theorem length_tabL (g : Nat → Nat) (n : Nat) : (tabL g n).length = n := by simp [tabL]
theorem cf_tabL (g : Nat → Nat) (n i : Nat) : cf (tabL g n) i = if i < n then g i else 0 := by
  by_cases h : i < n
  · simp [cf, tabL, h]
  · rw [cf_big _ _ (by rw [length_tabL]; omega), if_neg h]
/-- What is laid down when the places from k on have been asked. -/
def outTo (g : Nat → Nat) (n k : Nat) : List Nat := norm (tabL (fun i => if k ≤ i then g i else 0) n)
theorem outTo_zero (g : Nat → Nat) (n : Nat) : outTo g n 0 = norm (tabL g n) := by
  unfold outTo
  congr 1
theorem cf_outTo (g : Nat → Nat) (n k i : Nat) : cf (outTo g n k) i = if k ≤ i ∧ i < n then g i else 0 := by
  unfold outTo
  rw [cf_norm, cf_tabL]
  by_cases h1 : i < n <;> by_cases h2 : k ≤ i <;> simp [h1, h2]
theorem outTo_top (g : Nat → Nat) (n k : Nat) (h : n ≤ k) : outTo g n k = [] := by
  unfold outTo
  rw [norm_nil_iff]
  intro i
  rw [cf_tabL]
  by_cases h1 : i < n
  · rw [if_pos h1, if_neg (by omega)]
  · rw [if_neg h1]
theorem outTo_skip (g : Nat → Nat) (n k : Nat) (h : g k = 0) : outTo g n k = outTo g n (k + 1) := by
  unfold outTo
  apply norm_ext
  intro i
  rw [cf_tabL, cf_tabL]
  by_cases hn : i < n
  · rw [if_pos hn, if_pos hn]
    by_cases e : i = k
    · subst e
      rw [if_pos (Nat.le_refl _), if_neg (by omega), h]
    · by_cases h1 : k ≤ i
      · rw [if_pos h1, if_pos (by omega)]
      · rw [if_neg h1, if_neg (by omega)]
  · rw [if_neg hn, if_neg hn]
theorem eq_of_cf {p q : List Nat} (hl : p.length = q.length) (h : ∀ i, i < p.length → cf p i = cf q i) : p = q := by
  apply List.ext_getElem hl
  intro i h1 h2
  have := h i h1
  unfold cf at this
  rwa [List.getElem?_eq_getElem h1, List.getElem?_eq_getElem h2] at this
theorem cf_set (p : List Nat) (k x i : Nat) (hk : k < p.length) : cf (p.set k x) i = if i = k then x else cf p i := by
  unfold cf
  rw [List.getElem?_set]
  by_cases e : k = i
  · subst e; simp [hk]
  · rw [if_neg e, if_neg (fun h => e h.symm)]
theorem norm_length_of (p : List Nat) (k : Nat) (h1 : cf p k ≠ 0) (h2 : ∀ i, k < i → cf p i = 0) : (norm p).length = k + 1 := by
  have a1 : (norm p).length ≤ k + 1 := norm_len_le p (k + 1) (fun i hi => h2 i (by omega))
  have a2 : k < (norm p).length := by
    rcases Nat.lt_or_ge k (norm p).length with h | h
    · exact h
    · exact absurd (norm_above p k h) h1
  omega
/-- The first that is not 0 tells how long the list gets. -/
theorem outTo_first (g : Nat → Nat) (n k : Nat) (hk : k < n) (h : g k ≠ 0) (h0 : outTo g n (k + 1) = []) : outTo g n k = (List.replicate (k + 1) 0).set k (g k) := by
  have hz : ∀ i, k < i → cf (outTo g n k) i = 0 := fun i hi => by
    have := cf_outTo g n (k + 1) i
    rw [h0, cf_nil] at this
    rw [cf_outTo]
    by_cases h1 : k ≤ i ∧ i < n
    · rw [if_pos h1]; rw [if_pos (by omega)] at this; exact this.symm
    · rw [if_neg h1]
  have hl : (outTo g n k).length = k + 1 := by
    have hn : norm (outTo g n k) = outTo g n k := norm_norm _
    rw [← hn]
    apply norm_length_of
    · rw [cf_outTo, if_pos ⟨Nat.le_refl _, hk⟩]; exact h
    · exact hz
  apply eq_of_cf (by simp [hl])
  intro i hi
  rw [hl] at hi
  rw [cf_set _ _ _ _ (by simp), cf_outTo]
  by_cases e : i = k
  · subst e; rw [if_pos ⟨Nat.le_refl _, hk⟩, if_pos rfl]
  · rw [if_neg (by omega), if_neg e]
    simp [cf, hi]
theorem outTo_lt (g : Nat → Nat) (n k : Nat) (h0 : outTo g n k ≠ []) : k < (outTo g n k).length := by
  rcases Nat.lt_or_ge k (outTo g n k).length with h | h
  · exact h
  · exfalso
    apply h0
    have hn : norm (outTo g n k) = outTo g n k := norm_norm _
    rw [← hn, norm_nil_iff]
    intro i
    by_cases hi : i < k
    · rw [cf_outTo, if_neg (by omega)]
    · exact cf_big _ _ (by omega)
theorem outTo_next (g : Nat → Nat) (n k : Nat) (hk : k < n) (h0 : outTo g n (k + 1) ≠ []) : outTo g n k = (outTo g n (k + 1)).set k (g k) := by
  have hlt := outTo_lt g n (k + 1) h0
  have hn1 : norm (outTo g n (k + 1)) = outTo g n (k + 1) := norm_norm _
  have hlast := norm_last (outTo g n (k + 1)) (by rw [hn1]; exact h0)
  rw [hn1] at hlast
  have hL : (outTo g n k).length = (outTo g n (k + 1)).length := by
    have hn : norm (outTo g n k) = outTo g n k := norm_norm _
    rw [← hn, norm_length_of _ ((outTo g n (k + 1)).length - 1)]
    · omega
    · rw [cf_outTo]
      rw [cf_outTo] at hlast
      by_cases hc : k + 1 ≤ (outTo g n (k + 1)).length - 1 ∧ (outTo g n (k + 1)).length - 1 < n
      · rw [if_pos hc] at hlast
        rw [if_pos (by omega)]
        exact hlast
      · rw [if_neg hc] at hlast
        exact absurd rfl hlast
    · intro i hi
      have := cf_big (outTo g n (k + 1)) i (by omega)
      rw [cf_outTo] at this
      rw [cf_outTo]
      by_cases hc : k ≤ i ∧ i < n
      · rw [if_pos hc]; rw [if_pos (by omega)] at this; exact this
      · rw [if_neg hc]
  apply eq_of_cf (by simp [hL])
  intro i hi
  rw [cf_set _ _ _ _ (by omega), cf_outTo, cf_outTo]
  by_cases e : i = k
  · subst e; rw [if_pos ⟨Nat.le_refl _, hk⟩, if_pos rfl]
  · rw [if_neg e]
    by_cases hc : k ≤ i ∧ i < n
    · rw [if_pos hc, if_pos (by omega)]
    · rw [if_neg hc, if_neg (by omega)]
theorem outTo_len (g : Nat → Nat) (n k : Nat) : (outTo g n k).length ≤ n := by
  unfold outTo
  have := norm_length_le (tabL (fun i => if k ≤ i then g i else 0) n)
  rwa [length_tabL] at this
theorem isP_tabL (g : Nat → Nat) (n : Nat) (h : ∀ i, i < n → g i < 8192) : IsP (tabL g n) := by
  intro x hx
  simp only [tabL, List.mem_map, List.mem_range] at hx
  obtain ⟨i, hi, rfl⟩ := hx
  exact h i hi
theorem tabL_cf (p : List Nat) : tabL (cf p) p.length = p := by
  apply eq_of_cf (length_tabL _ _)
  intro i hi
  rw [length_tabL] at hi
  rw [cf_tabL, if_pos hi]

/-- The coefficient k of a product, its first m terms. -/
def cv (p q : List Nat) (k : Nat) : Nat → Nat
  | 0 => 0
  | m + 1 => cv p q k m ^^^ gmul (cf p m) (cf q (k - m))
theorem cv_lt {p : List Nat} (q : List Nat) (hp : IsP p) (k m : Nat) : cv p q k m < 8192 := by
  induction m with
  | zero => show 0 < 8192; decide
  | succ m ih => exact xor_lt _ _ ih (gmul_lt _ _ (cf_lt hp m))
theorem cv_cons (x : Nat) (p q : List Nat) (k m : Nat) : cv (x :: p) q (k + 1) (m + 1) = gmul x (cf q (k + 1)) ^^^ cv p q k m := by
  induction m with
  | zero => show 0 ^^^ gmul (cf (x :: p) 0) (cf q (k + 1 - 0)) = _ ^^^ 0; rw [Nat.zero_xor, Nat.xor_zero]; rfl
  | succ m ih =>
    show cv (x :: p) q (k + 1) (m + 1) ^^^ gmul (cf (x :: p) (m + 1)) (cf q (k + 1 - (m + 1))) = _ ^^^ (cv p q k m ^^^ _)
    rw [ih, cf_succ, show k + 1 - (m + 1) = k - m from by omega, Nat.xor_assoc]
theorem cf_mulL (p q : List Nat) (hq : IsP q) (k : Nat) : cf (mulL p q) k = cv p q k (k + 1) := by
  induction p generalizing k with
  | nil =>
    have h0 : ∀ m, cv [] q k m = 0 := fun m => by
      induction m with
      | zero => rfl
      | succ m ih => show cv [] q k m ^^^ gmul (cf [] m) _ = 0; rw [ih, cf_nil, zero_gmul _ (cf_lt hq _)]; rfl
    rw [h0]; rfl
  | cons x p ih =>
    show cf (addL (smul x q) (0 :: mulL p q)) k = _
    rw [cf_addL, cf_smul]
    cases k with
    | zero => show _ ^^^ 0 = 0 ^^^ gmul (cf (x :: p) 0) (cf q (0 - 0)); rw [Nat.xor_zero, Nat.zero_xor]; rfl
    | succ k => rw [cf_succ, ih k, cv_cons]
/-- Terms that are 0 ahead of the first place where both have a coefficient. -/
theorem cv_low (p q : List Nat) (k m : Nat) (h : ∀ j, j < m → q.length ≤ k - j) : cv p q k m = 0 := by
  induction m with
  | zero => rfl
  | succ m ih =>
    show cv p q k m ^^^ gmul (cf p m) (cf q (k - m)) = 0
    rw [ih (fun j hj => h j (by omega)), cf_big q (k - m) (h m (by omega)), gmul_zero]; rfl
theorem cv_high (p q : List Nat) (hq : IsP q) (k m d : Nat) (h : p.length ≤ m) : cv p q k (m + d) = cv p q k m := by
  induction d with
  | zero => rfl
  | succ d ih =>
    show cv p q k (m + d) ^^^ gmul (cf p (m + d)) (cf q (k - (m + d))) = _
    rw [ih, cf_big p (m + d) (by omega), zero_gmul _ (cf_lt hq _), Nat.xor_zero]
theorem cv_stop (p q : List Nat) (hq : IsP q) (k m : Nat) (hm : m ≤ k + 1) (h : k < m ∨ p.length ≤ m) : cv p q k m = cf (mulL p q) k := by
  rw [cf_mulL p q hq]
  rcases h with h | h
  · rw [show m = k + 1 from by omega]
  · obtain ⟨d, hd⟩ := Nat.exists_eq_add_of_le hm
    rw [hd, cv_high p q hq k m d h]
theorem mulL_beyond (p q : List Nat) (hq : IsP q) (k : Nat) (h : p.length + q.length - 1 ≤ k) : cf (mulL p q) k = 0 := by
  rw [cf_mulL p q hq]
  have hz : ∀ m, m ≤ k + 1 → cv p q k m = 0 := fun m hm => by
    induction m with
    | zero => rfl
    | succ m ih =>
      show cv p q k m ^^^ gmul (cf p m) (cf q (k - m)) = 0
      rw [ih (by omega)]
      by_cases hm' : p.length ≤ m
      · rw [cf_big p m hm', zero_gmul _ (cf_lt hq _)]; rfl
      · rw [cf_big q (k - m) (by omega), gmul_zero]; rfl
  exact hz _ (Nat.le_refl _)
theorem tabL_mul (p q : List Nat) (hq : IsP q) (n : Nat) (hn : p.length + q.length - 1 ≤ n) : norm (tabL (cf (mulL p q)) n) = norm (mulL p q) := norm_ext fun i => by
  rw [cf_tabL]
  by_cases h : i < n
  · rw [if_pos h]
  · rw [if_neg h, mulL_beyond p q hq i (by omega)]

/-- r without f times q, k places up, as far as q's first m coefficients go. -/
def takeOut (r q : List Nat) (k f m : Nat) : List Nat := tabL (fun i => cf r i ^^^ (if k ≤ i ∧ i < k + m then gmul f (cf q (i - k)) else 0)) r.length
theorem length_takeOut (r q : List Nat) (k f m : Nat) : (takeOut r q k f m).length = r.length := length_tabL _ _
theorem takeOut_zero (r q : List Nat) (k f : Nat) : takeOut r q k f 0 = r := by
  apply eq_of_cf (length_takeOut _ _ _ _ _)
  intro i hi
  rw [length_takeOut] at hi
  unfold takeOut
  rw [cf_tabL, if_pos hi, if_neg (by omega), Nat.xor_zero]
theorem takeOut_succ (r q : List Nat) (k f m : Nat) (h : k + m < r.length) : takeOut r q k f (m + 1) = (takeOut r q k f m).set (k + m) (cf (takeOut r q k f m) (k + m) ^^^ gmul f (cf q m)) := by
  apply eq_of_cf (by simp [length_takeOut])
  intro i hi
  rw [length_takeOut] at hi
  rw [cf_set _ _ _ _ (by rw [length_takeOut]; exact h)]
  unfold takeOut
  rw [cf_tabL, cf_tabL, cf_tabL, if_pos hi, if_pos h, if_pos hi]
  by_cases e : i = k + m
  · subst e
    rw [if_pos (by omega), if_pos rfl, if_neg (by omega), Nat.xor_zero, show k + m - k = m from by omega]
  · rw [if_neg e]
    by_cases h1 : k ≤ i ∧ i < k + m
    · rw [if_pos h1, if_pos (by omega)]
    · rw [if_neg h1, if_neg (by omega)]
theorem takeOut_none (r q : List Nat) (k m : Nat) (hq : IsP q) : takeOut r q k 0 m = r := by
  apply eq_of_cf (length_takeOut _ _ _ _ _)
  intro i hi
  rw [length_takeOut] at hi
  unfold takeOut
  rw [cf_tabL, if_pos hi, zero_gmul _ (cf_lt hq _)]
  simp
theorem isP_takeOut {r q : List Nat} (hr : IsP r) (k f m : Nat) (hf : f < 8192) : IsP (takeOut r q k f m) := by
  apply isP_tabL
  intro i _
  apply xor_lt _ _ (cf_lt hr i)
  by_cases h : k ≤ i ∧ i < k + m
  · rw [if_pos h]; exact gmul_lt _ _ hf
  · rw [if_neg h]; decide

/-- The rest behind j steps of a division from the top place n - 1 down; inv: the inverse of q's last. -/
def restR (p q : List Nat) (n inv : Nat) : Nat → List Nat
  | 0 => p
  | j + 1 => takeOut (restR p q n inv j) q (n - 1 - j) (gmul (cf (restR p q n inv j) (n - 1 - j + (q.length - 1))) inv) q.length
/-- The rest when the places from k on are done, and the factor at k. -/
def restTo (p q : List Nat) (n inv k : Nat) : List Nat := restR p q n inv (n - k)
def facAt (p q : List Nat) (n inv k : Nat) : Nat := gmul (cf (restTo p q n inv (k + 1)) (k + (q.length - 1))) inv
theorem restTo_top (p q : List Nat) (n inv : Nat) : restTo p q n inv n = p := by unfold restTo; rw [Nat.sub_self]; rfl
theorem restTo_step (p q : List Nat) (n inv k : Nat) (hk : k < n) : restTo p q n inv k = takeOut (restTo p q n inv (k + 1)) q k (facAt p q n inv k) q.length := by
  unfold facAt restTo
  rw [show n - k = (n - (k + 1)) + 1 from by omega]
  show takeOut (restR p q n inv (n - (k + 1))) q (n - 1 - (n - (k + 1))) _ _ = _
  rw [show n - 1 - (n - (k + 1)) = k from by omega]
theorem length_restR (p q : List Nat) (n inv j : Nat) : (restR p q n inv j).length = p.length := by
  induction j with
  | zero => rfl
  | succ j ih => exact (length_takeOut _ _ _ _ _).trans ih
theorem length_restTo (p q : List Nat) (n inv k : Nat) : (restTo p q n inv k).length = p.length := length_restR _ _ _ _ _
theorem isP_restR {p q : List Nat} (hp : IsP p) (n inv j : Nat) : IsP (restR p q n inv j) := by
  induction j with
  | zero => exact hp
  | succ j ih => exact isP_takeOut ih _ _ _ (gmul_lt _ _ (cf_lt ih _))
theorem isP_restTo {p q : List Nat} (hp : IsP p) (n inv k : Nat) : IsP (restTo p q n inv k) := isP_restR hp _ _ _
theorem facAt_lt {p q : List Nat} (hp : IsP p) (n inv k : Nat) : facAt p q n inv k < 8192 := gmul_lt _ _ (cf_lt (isP_restTo hp _ _ _) _)

/-- f at the place k. -/
def mono (f k : Nat) : List Nat := List.replicate k 0 ++ [f]
theorem cf_mono (f k i : Nat) : cf (mono f k) i = if i = k then f else 0 := by
  unfold cf mono
  by_cases h : i < k
  · rw [List.getElem?_append_left (by simpa using h), if_neg (by omega)]
    simp [h]
  · rw [List.getElem?_append_right (by simpa using h)]
    by_cases e : i = k
    · subst e; simp
    · rw [if_neg e, List.getElem?_eq_none (by simp; omega)]; rfl
theorem isP_mono {f : Nat} (k : Nat) (hf : f < 8192) : IsP (mono f k) := by
  intro x hx
  unfold mono at hx
  rcases List.mem_append.1 hx with h | h
  · rw [List.eq_of_mem_replicate h]; decide
  · simp at h; omega
theorem cf_mono_mul (f k : Nat) (q : List Nat) (hq : IsP q) (i : Nat) : cf (mulL (mono f k) q) i = if k ≤ i then gmul f (cf q (i - k)) else 0 := by
  induction k generalizing i with
  | zero =>
    show cf (addL (smul f q) (0 :: mulL [] q)) i = _
    rw [cf_addL, cf_smul, if_pos (Nat.zero_le _), Nat.sub_zero]
    have : cf (0 :: mulL [] q) i = 0 := by cases i <;> rfl
    rw [this, Nat.xor_zero]
  | succ k ih =>
    have e : mono f (k + 1) = 0 :: mono f k := by simp [mono, List.replicate_succ]
    rw [e, zero_cons_mulL _ _ hq i]
    cases i with
    | zero => rw [if_neg (by omega)]; rfl
    | succ i =>
      rw [cf_succ, ih]
      by_cases h : k ≤ i
      · rw [if_pos h, if_pos (by omega), show i + 1 - (k + 1) = i - k from by omega]
      · rw [if_neg h, if_neg (by omega)]
/-- What is laid down behind a step, the factor added. -/
theorem outTo_add (g : Nat → Nat) (n k : Nat) (hk : k < n) : Eqv (outTo g n k) (addL (outTo g n (k + 1)) (mono (g k) k)) := fun i => by
  rw [cf_addL, cf_outTo, cf_outTo, cf_mono]
  by_cases e : i = k
  · subst e; rw [if_pos (by omega), if_neg (by omega), if_pos rfl, Nat.zero_xor]
  · rw [if_neg e, Nat.xor_zero]
    by_cases h : k ≤ i ∧ i < n
    · rw [if_pos h, if_pos (by omega)]
    · rw [if_neg h, if_neg (by omega)]
theorem isP_outTo (g : Nat → Nat) (n k : Nat) (h : ∀ i, i < n → g i < 8192) : IsP (outTo g n k) := by
  apply isP_norm
  apply isP_tabL
  intro i hi
  by_cases h1 : k ≤ i
  · rw [if_pos h1]; exact h i hi
  · rw [if_neg h1]; decide

/-- Division: what was asked for stays the same through every step. -/
theorem div_step_sum (p q r : List Nat) (g : Nat → Nat) (n k : Nat) (hq : IsP q) (hg : ∀ i, i < n → g i < 8192) (hk : k < n) (hlen : k + q.length ≤ r.length)
    (h : Eqv (addL (mulL q (outTo g n (k + 1))) r) p) : Eqv (addL (mulL q (outTo g n k)) (takeOut r q k (g k) q.length)) p := by
  have hO := isP_outTo g n (k + 1) hg
  have hm : Eqv (mulL q (outTo g n k)) (addL (mulL q (outTo g n (k + 1))) (mulL (mono (g k) k) q)) := by
    refine (mulL_right q (outTo_add g n k hk)).trans ?_
    refine (mulL_add_right q _ _).trans ?_
    exact eqv_addL (Eqv.refl _) (mulL_comm _ _ hq (isP_mono k (hg k hk)))
  intro i
  rw [cf_addL, hm i, cf_addL, cf_mono_mul _ _ _ hq, ← h i, cf_addL]
  unfold takeOut
  rw [cf_tabL]
  by_cases hi : i < r.length
  · rw [if_pos hi]
    by_cases h1 : k ≤ i
    · rw [if_pos h1]
      by_cases h2 : i < k + q.length
      · rw [if_pos ⟨h1, h2⟩]
        generalize gmul (g k) (cf q (i - k)) = t
        rw [show cf r i ^^^ t = t ^^^ cf r i from Nat.xor_comm _ _, ← Nat.xor_assoc, Nat.xor_assoc _ t t, Nat.xor_self, Nat.xor_zero]
      · rw [if_neg (fun hh => h2 hh.2), cf_big q (i - k) (by omega), gmul_zero, Nat.xor_zero, Nat.xor_zero]
    · rw [if_neg h1, if_neg (fun hh => h1 hh.1), Nat.xor_zero, Nat.xor_zero]
  · rw [if_neg hi, cf_big r i (by omega)]
    by_cases h1 : k ≤ i
    · rw [if_pos h1, cf_big q (i - k) (by omega), gmul_zero, Nat.xor_zero]
    · rw [if_neg h1, Nat.xor_zero]
theorem div_step_low (r q : List Nat) (k inv : Nat) (hr : IsP r) (hq : IsP q) (hq0 : 0 < q.length) (hinv : inv < 8192) (hi1 : gmul (cf q (q.length - 1)) inv = 1)
    (h : ∀ i, k + 1 + (q.length - 1) ≤ i → cf r i = 0) : ∀ i, k + (q.length - 1) ≤ i → cf (takeOut r q k (gmul (cf r (k + (q.length - 1))) inv) q.length) i = 0 := by
  intro i hi
  unfold takeOut
  rw [cf_tabL]
  by_cases hl : i < r.length
  · rw [if_pos hl]
    by_cases e : i = k + (q.length - 1)
    · subst e
      rw [if_pos (by omega), show k + (q.length - 1) - k = q.length - 1 from by omega]
      have c1 := cf_lt hr (k + (q.length - 1))
      have c2 := cf_lt hq (q.length - 1)
      rw [gmul_assoc _ _ _ c1 hinv c2, gmul_comm inv _ hinv c2, hi1, gmul_one _ c1, Nat.xor_self]
    · rw [if_neg (by omega), Nat.xor_zero]
      exact h i (by omega)
  · rw [if_neg hl]
theorem div_all (p q : List Nat) (n inv : Nat) (hp : IsP p) (hq : IsP q) (hq0 : 0 < q.length) (hinv : inv < 8192) (hi1 : gmul (cf q (q.length - 1)) inv = 1) (hn : n + (q.length - 1) = p.length ∨ (n = 0 ∧ p.length ≤ q.length - 1)) (d : Nat) (hd : d ≤ n) :
    Eqv (addL (mulL q (outTo (facAt p q n inv) n (n - d))) (restTo p q n inv (n - d))) p ∧ ∀ i, n - d + (q.length - 1) ≤ i → cf (restTo p q n inv (n - d)) i = 0 := by
  induction d with
  | zero =>
    rw [Nat.sub_zero, restTo_top, outTo_top _ _ _ (Nat.le_refl _)]
    constructor
    · intro i; rw [cf_addL, mulL_nil q i, cf_nil, Nat.zero_xor]
    · intro i hi; exact cf_big _ _ (by omega)
  | succ d ih =>
    obtain ⟨h1, h2⟩ := ih (by omega)
    have hk : n - (d + 1) < n := by omega
    have e : n - d = n - (d + 1) + 1 := by omega
    rw [e] at h1 h2
    generalize n - (d + 1) = k at *
    rw [restTo_step p q n inv k hk]
    constructor
    · exact div_step_sum p q _ _ n k hq (fun i _ => facAt_lt hp _ _ _) hk (by rw [length_restTo]; omega) h1
    · exact div_step_low _ q k inv (isP_restTo hp _ _ _) hq hq0 hinv hi1 h2

end Go.Proofs.Ytjiaomkjebbkpab
