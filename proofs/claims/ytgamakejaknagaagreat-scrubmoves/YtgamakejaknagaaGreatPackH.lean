/-
  Plain mathematics for the code of layer 5 (bch): Berlekamp's and Massey's rounds keep what they should; no rule that fits all sums is shorter; where few bits were flipped, what they find is 0 at just the inverses of w's powers of their places.
-/
import Derived.Test.YtgamakejaknagaaGreatPackB
import Derived.Test.YtgamakejaknagaaGreatPackG
import Derived.Test.YtgamakejaknagaaGreatPackE
import Derived.Test.YtgamakejaknagaaGreatPackF
namespace Go.Proofs.YtgamakejaknagaaGreat
set_option linter.unusedVariables false
set_option maxRecDepth 8192

theorem isP_01 : IsP [0, 1] := fun x hx => by simp at hx; omega
theorem isP_one_g {g : Nat} (hg : g < 8192) : IsP [g] := fun x hx => by simp at hx; omega
theorem mul_x (p : List Nat) (hp : IsP p) : Eqv (mulL p [0, 1]) (0 :: p) :=
  (mulL_comm p [0, 1] hp isP_01).trans ((zero_cons_mulL [1] p hp).trans (eqv_cons (mulL_one p hp)))
theorem mul_const (p : List Nat) (g : Nat) (hp : IsP p) (hg : g < 8192) : Eqv (mulL p [g]) (smul g p) := fun i => by
  rw [mulL_cons_right p g [] hp hg i, cf_addL]
  have h0 : cf (0 :: mulL p []) i = 0 := by
    cases i with
    | zero => rfl
    | succ i => rw [cf_succ, mulL_nil p i]; rfl
  rw [h0, Nat.xor_zero]
theorem mul_x_s (p s : List Nat) (hp : IsP p) (hs : IsP s) (i : Nat) : cf (mulL (norm (mulL p [0, 1])) s) (i + 1) = cf (mulL p s) i := by
  have h1 := mulL_left s (isP_norm (isP_mulL [0, 1] hp)) (isP_zero_cons hp) hs ((norm_eqv _).trans (mul_x p hp)) (i + 1)
  rw [h1, zero_cons_mulL p s hs (i + 1), cf_succ]
theorem mul_const_s (p s : List Nat) (g : Nat) (hp : IsP p) (hs : IsP s) (hg : g < 8192) (i : Nat) : cf (mulL (norm (mulL p [g])) s) i = gmul g (cf (mulL p s) i) := by
  have h1 := mulL_left s (isP_norm (isP_mulL [g] hp)) (isP_smul hg) hs ((norm_eqv _).trans (mul_const p g hp hg)) i
  rw [h1, smul_mulL g p s hg hp hs i, cf_smul]
theorem add_s (p q s : List Nat) (hp : IsP p) (hq : IsP q) (hs : IsP s) (i : Nat) : cf (mulL (norm (addL p q)) s) i = cf (mulL p s) i ^^^ cf (mulL q s) i := by
  have h1 := mulL_left s (isP_norm (isP_addL hp hq)) (isP_addL hp hq) hs (norm_eqv _) i
  rw [h1, mulL_add_left p q s hp hq hs i, cf_addL]
theorem cf_x (p : List Nat) (hp : IsP p) (i : Nat) : cf (norm (mulL p [0, 1])) i = cf (0 :: p) i := by rw [cf_norm, mul_x p hp i]
theorem cf_const (p : List Nat) (g : Nat) (hp : IsP p) (hg : g < 8192) (i : Nat) : cf (norm (mulL p [g])) i = gmul g (cf p i) := by rw [cf_norm, mul_const p g hp hg i, cf_smul]

/-! The rounds. -/
structure Bm where
  now : List Nat
  bef : List Nat
  len : Nat
def gapN (s : List Nat) (st : Bm) (n : Nat) : Nat := cf (mulL st.now s) n
def bmStep (s : List Nat) (n : Nat) (st : Bm) : Bm :=
  if gapN s st n = 0 then ⟨st.now, norm (mulL st.bef [0, 1]), st.len⟩
  else if 2 * st.len ≤ n then ⟨norm (addL st.now (norm (mulL (norm (mulL st.bef [0, 1])) [gapN s st n]))), norm (mulL st.now [ginv (gapN s st n)]), n + 1 - st.len⟩
  else ⟨norm (addL st.now (norm (mulL (norm (mulL st.bef [0, 1])) [gapN s st n]))), norm (mulL st.bef [0, 1]), st.len⟩
def bmTo (s : List Nat) : Nat → Bm
  | 0 => ⟨[1], [1], 0⟩
  | n + 1 => bmStep s n (bmTo s n)
/-- What the rounds keep. -/
structure BmOk (s : List Nat) (n : Nat) (st : Bm) : Prop where
  pn : IsP st.now
  pb : IsP st.bef
  nn : norm st.now = st.now
  len : st.len ≤ n
  ln : st.now.length ≤ st.len + 1
  lb : st.bef.length ≤ n - st.len + 1
  one : cf st.now 0 = 1
  fit : ∀ i, st.len ≤ i → i < n → cf (mulL st.now s) i = 0
  old : ∀ i, n ≤ i + st.len → i < n → cf (mulL st.bef s) i = if i + 1 = n then 1 else 0
theorem norm_len {p : List Nat} {n : Nat} (h : ∀ i, n ≤ i → cf p i = 0) : (norm p).length ≤ n := norm_len_le p n h
theorem bm_zero (s : List Nat) : BmOk s 0 (bmTo s 0) :=
  ⟨isP_one1, isP_one1, (by show norm [1] = [1]; decide), Nat.le_refl _, Nat.le_refl _, Nat.le_refl _, rfl, fun i _ h => absurd h (by omega), fun i _ h => absurd h (by omega)⟩
theorem gap_lt {s : List Nat} {n : Nat} {st : Bm} (h : BmOk s n st) (m : Nat) : gapN s st m < 8192 := cf_lt (isP_mulL s h.pn) m
theorem len_x {p : List Nat} {n : Nat} (hp : IsP p) (h : p.length ≤ n) : (norm (mulL p [0, 1])).length ≤ n + 1 := by
  apply norm_len
  intro i hi
  rw [mul_x p hp i]
  cases i with
  | zero => omega
  | succ i => rw [cf_succ]; exact cf_big _ _ (by omega)
theorem len_const {p : List Nat} {n g : Nat} (hp : IsP p) (hg : g < 8192) (h : p.length ≤ n) : (norm (mulL p [g])).length ≤ n := by
  apply norm_len
  intro i hi
  rw [mul_const p g hp hg i, cf_smul, cf_big _ _ (by omega), gmul_zero]
theorem len_add {p q : List Nat} {n : Nat} (h1 : p.length ≤ n) (h2 : q.length ≤ n) : (norm (addL p q)).length ≤ n := by
  apply norm_len
  intro i hi
  rw [cf_addL, cf_big _ _ (by omega), cf_big _ _ (by omega)]
  rfl
/-- The next rule: it fits one sum more. -/
theorem next_ok {s : List Nat} {n : Nat} {st : Bm} (hs : IsP s) (h : BmOk s n st) (L : Nat) (h1 : st.len ≤ L) (h2 : n + 1 ≤ L + st.len) (h3 : L ≤ n + 1) :
    let nx := norm (addL st.now (norm (mulL (norm (mulL st.bef [0, 1])) [gapN s st n])))
    IsP nx ∧ norm nx = nx ∧ nx.length ≤ L + 1 ∧ cf nx 0 = 1 ∧ ∀ i, L ≤ i → i < n + 1 → cf (mulL nx s) i = 0 := by
  intro nx
  have hg := gap_lt h n
  have px : IsP (norm (mulL st.bef [0, 1])) := isP_norm (isP_mulL _ h.pb)
  have pc : IsP (norm (mulL (norm (mulL st.bef [0, 1])) [gapN s st n])) := isP_norm (isP_mulL _ px)
  have hlen := h.len
  refine ⟨isP_norm (isP_addL h.pn pc), norm_norm _, ?_, ?_, ?_⟩
  · refine len_add (by have := h.ln; omega) (len_const px hg ?_)
    have := len_x (n := n - st.len + 1) h.pb h.lb
    omega
  · show cf (norm (addL st.now _)) 0 = 1
    rw [cf_norm, cf_addL, h.one, cf_const _ _ px hg, cf_x _ h.pb, cf_zero, gmul_zero]
    rfl
  · intro i hi hin
    show cf (mulL (norm (addL st.now _)) s) i = 0
    rw [add_s _ _ s h.pn pc hs, mul_const_s _ s _ px hs hg]
    cases i with
    | zero => omega
    | succ j =>
      rw [mul_x_s _ s h.pb hs, h.old j (by omega) (by omega)]
      by_cases e : j + 1 = n
      · rw [if_pos e, gmul_one _ hg, e]
        exact Nat.xor_self _
      · rw [if_neg e, gmul_zero, h.fit (j + 1) (by omega) (by omega)]
        rfl
theorem bm_step {s : List Nat} {n : Nat} {st : Bm} (hs : IsP s) (h : BmOk s n st) : BmOk s (n + 1) (bmStep s n st) := by
  have hg := gap_lt h n
  have hlen := h.len
  have px : IsP (norm (mulL st.bef [0, 1])) := isP_norm (isP_mulL _ h.pb)
  have hold : ∀ i, n + 1 ≤ i + st.len → i < n + 1 → cf (mulL (norm (mulL st.bef [0, 1])) s) i = if i + 1 = n + 1 then 1 else 0 := by
    intro i h1 h2
    cases i with
    | zero => omega
    | succ j =>
      rw [mul_x_s _ s h.pb hs, h.old j (by omega) (by omega)]
      by_cases e : j + 1 = n
      · rw [if_pos e, if_pos (by omega)]
      · rw [if_neg e, if_neg (by omega)]
  have hlb : (norm (mulL st.bef [0, 1])).length ≤ n + 1 - st.len + 1 := by
    have := len_x (n := n - st.len + 1) h.pb h.lb
    omega
  unfold bmStep
  by_cases h0 : gapN s st n = 0
  · rw [if_pos h0]
    refine ⟨h.pn, px, h.nn, (by show st.len ≤ n + 1; omega), h.ln, hlb, h.one, ?_, hold⟩
    intro i h1 h2
    by_cases e : i = n
    · subst e; exact h0
    · exact h.fit i h1 (by omega)
  · rw [if_neg h0]
    by_cases h2 : 2 * st.len ≤ n
    · rw [if_pos h2]
      have hi := ginv_lt _ hg
      obtain ⟨a1, a2, a3, a4, a5⟩ := next_ok hs h (n + 1 - st.len) (by omega) (by omega) (by omega)
      refine ⟨a1, isP_norm (isP_mulL _ h.pn), a2, ?_, a3, ?_, a4, a5, ?_⟩
      · show n + 1 - st.len ≤ n + 1
        omega
      · show (norm (mulL st.now [ginv (gapN s st n)])).length ≤ n + 1 - (n + 1 - st.len) + 1
        have := len_const (n := st.len + 1) h.pn hi h.ln
        omega
      · intro i h3 h4
        have h3' : n + 1 ≤ i + (n + 1 - st.len) := h3
        show cf (mulL (norm (mulL st.now [ginv (gapN s st n)])) s) i = _
        rw [mul_const_s _ s _ h.pn hs hi]
        by_cases e : i = n
        · subst e
          rw [if_pos rfl]
          show gmul (ginv (gapN s st i)) (gapN s st i) = 1
          rw [gmul_comm _ _ hi hg, gmul_ginv _ hg h0]
        · rw [if_neg (by omega), h.fit i (by omega) (by omega), gmul_zero]
    · rw [if_neg h2]
      obtain ⟨a1, a2, a3, a4, a5⟩ := next_ok hs h st.len (Nat.le_refl _) (by omega) (by omega)
      exact ⟨a1, px, a2, by show st.len ≤ n + 1; omega, a3, hlb, a4, a5, hold⟩
theorem bm_ok {s : List Nat} (hs : IsP s) (n : Nat) : BmOk s n (bmTo s n) := by
  induction n with
  | zero => exact bm_zero s
  | succ n ih => exact bm_step hs ih

/-! No rule that fits is shorter. -/
theorem cv_none (p q : List Nat) (k m : Nat) (h : ∀ j, j < m → gmul (cf p j) (cf q (k - j)) = 0) : cv p q k m = 0 := by
  induction m with
  | zero => rfl
  | succ m ih => show cv p q k m ^^^ gmul (cf p m) (cf q (k - m)) = 0; rw [ih fun j hj => h j (by omega), h m (by omega)]; rfl
theorem cv_first (p q : List Nat) (k m : Nat) (h : ∀ j, 0 < j → j < m + 1 → gmul (cf p j) (cf q (k - j)) = 0) : cv p q k (m + 1) = gmul (cf p 0) (cf q k) := by
  induction m with
  | zero => show 0 ^^^ _ = _; rw [Nat.zero_xor]; rfl
  | succ m ih =>
    show cv p q k (m + 1) ^^^ gmul (cf p (m + 1)) (cf q (k - (m + 1))) = _
    rw [ih fun j h1 h2 => h j h1 (by omega), h (m + 1) (by omega) (by omega), Nat.xor_zero]
/-- A rule that fits the first N sums. -/
structure Fits (s : List Nat) (N e : Nat) (r : List Nat) : Prop where
  p : IsP r
  one : cf r 0 = 1
  short : ∀ i, e < i → cf r i = 0
  fit : ∀ i, e ≤ i → i < N → cf (mulL r s) i = 0
theorem massey {s : List Nat} {n N e : Nat} {st : Bm} {r : List Nat} (hs : IsP s) (h : BmOk s n st) (hr : Fits s N e r) (hn : n < N) (hg : gapN s st n ≠ 0) : n < e + st.len := by
  rcases Nat.lt_or_ge n (e + st.len) with hc | hc
  · exact hc
  · exfalso
    have pa := isP_mulL s h.pn
    have pr := isP_mulL s hr.p
    have e1 : cf (mulL r (mulL st.now s)) n = gapN s st n := by
      rw [cf_mulL r _ pa n, cv_first, hr.one, one_gmul _ (cf_lt pa n)]
      · rfl
      · intro j h1 h2
        by_cases hj : j ≤ e
        · rw [h.fit (n - j) (by omega) (by omega), gmul_zero]
        · rw [hr.short j (by omega), zero_gmul _ (cf_lt pa _)]
    have e2 : cf (mulL st.now (mulL r s)) n = 0 := by
      rw [cf_mulL _ _ pr n]
      apply cv_none
      intro j hj
      by_cases hl : j ≤ st.len
      · rw [hr.fit (n - j) (by omega) (by omega), gmul_zero]
      · rw [cf_big st.now j (by have := h.ln; omega), zero_gmul _ (cf_lt pr _)]
    have e3 : Eqv (mulL r (mulL st.now s)) (mulL st.now (mulL r s)) :=
      (mulL_assoc r st.now s hr.p h.pn hs).symm.trans ((mulL_left s (isP_mulL _ hr.p) (isP_mulL _ h.pn) hs (mulL_comm r st.now hr.p h.pn)).trans (mulL_assoc st.now r s h.pn hr.p hs))
    have := e3 n
    rw [e1, e2] at this
    exact hg this
theorem bm_least {s : List Nat} {N e : Nat} {r : List Nat} (hs : IsP s) (hr : Fits s N e r) (n : Nat) (hn : n ≤ N) : (bmTo s n).len ≤ e := by
  induction n with
  | zero => exact Nat.zero_le _
  | succ n ih =>
    have ih := ih (by omega)
    have hok := bm_ok hs n
    have hlen := hok.len
    show (bmStep s n (bmTo s n)).len ≤ e
    unfold bmStep
    by_cases h0 : gapN s (bmTo s n) n = 0
    · rw [if_pos h0]; exact ih
    · rw [if_neg h0]
      have := massey hs hok hr (by omega) h0
      by_cases h2 : 2 * (bmTo s n).len ≤ n
      · rw [if_pos h2]; show n + 1 - (bmTo s n).len ≤ e; omega
      · rw [if_neg h2]; exact ih

/-! Sums of flips. -/
/-- s are the sums of flips at these places. -/
def FlipSums (s : List Nat) (N : Nat) (P : List Nat) : Prop := ∀ i, i < N → cf s i = xsum (fun q => gpow 2 ((i + 1) * q)) P
theorem inv_pow (q m : Nat) : gmul (gpow 2 (m * q)) (gpow (ginv (gpow 2 q)) m) = 1 := by
  have h := pow2_ok q
  rw [Nat.mul_comm, gpow_mul 2 q m (by decide), ← gmul_gpow _ _ m h.1 (ginv_lt _ h.1), gmul_ginv _ h.1 h.2, one_gpow]
theorem gap_flips {s P p : List Nat} {N i : Nat} (hs : IsP s) (hf : FlipSums s N P) (hp : IsP p) (hl : p.length ≤ i + 1) (hi : i < N) :
    cf (mulL p s) i = xsum (fun q => gmul (gpow 2 ((i + 1) * q)) (evl p (ginv (gpow 2 q)))) P := by
  have key : ∀ m, m ≤ p.length → cv p s i m = xsum (fun q => gmul (gpow 2 ((i + 1) * q)) (evl (p.take m) (ginv (gpow 2 q)))) P := by
    intro m
    induction m with
    | zero => intro _; exact (xsum_zero fun q _ => gmul_zero _).symm
    | succ m ih =>
      intro hm
      have ih := ih (by omega)
      have c1 := cf_lt hp m
      have e : xsum (fun q => gmul (gpow 2 ((i + 1) * q)) (evl (p.take (m + 1)) (ginv (gpow 2 q)))) P =
          xsum (fun q => gmul (gpow 2 ((i + 1) * q)) (evl (p.take m) (ginv (gpow 2 q))) ^^^ gmul (cf p m) (gpow 2 ((i - m + 1) * q))) P := by
        apply xsum_congr
        intro q _
        show gmul (gpow 2 ((i + 1) * q)) (evl (p.take (m + 1)) (ginv (gpow 2 q))) = _
        have hy := ginv_lt _ (pow2_ok q).1
        have l1 := gpow_lt (ginv (gpow 2 q)) m hy
        have l2 := pow2_ok ((i - m + 1) * q)
        have l3 := pow2_ok (m * q)
        rw [take_snoc_nat p m (by omega), evl_snoc _ _ _ c1 (isP_take hp m) hy, List.length_take, Nat.min_eq_left (by omega), gmul_right]
        congr 1
        rw [show (i + 1) * q = (i - m + 1) * q + m * q from by rw [← Nat.add_mul]; congr 1; omega, gpow_add 2 _ _ (by decide), gmul_comm (cf p m) _ c1 l1,
          gmul_assoc _ _ _ l2.1 l3.1 (gmul_lt _ _ l1), ← gmul_assoc _ _ _ l3.1 l1 c1, inv_pow, one_gmul _ c1, gmul_comm _ _ l2.1 c1]
      show cv p s i m ^^^ gmul (cf p m) (cf s (i - m)) = _
      rw [e, xsum_xor, xsum_mul, ← ih, hf (i - m) (by omega)]
  have h1 := key p.length (Nat.le_refl _)
  rw [List.take_length] at h1
  rw [← h1]
  exact (cv_stop p s hs i p.length hl (.inr (Nat.le_refl _))).symm
/-- The rule of flips. -/
def locL : List Nat → List Nat
  | [] => [1]
  | q :: P => mulL [1, gpow 2 q] (locL P)
theorem isP_lin (q : Nat) : IsP [1, gpow 2 q] := fun x hx => by
  simp at hx
  have := (pow2_ok q).1
  omega
theorem isP_locL (P : List Nat) : IsP (locL P) := by
  cases P with
  | nil => exact isP_one1
  | cons q P => exact isP_mulL _ (isP_lin q)
theorem locL_high (P : List Nat) (i : Nat) (h : P.length < i) : cf (locL P) i = 0 := by
  induction P generalizing i with
  | nil => exact cf_big _ _ (by simp [locL]; simp at h; omega)
  | cons q P ih =>
    simp at h
    show cf (mulL [1, gpow 2 q] (locL P)) i = 0
    rw [cf_mulL _ _ (isP_locL P)]
    apply cv_none
    intro j hj
    by_cases h2 : j < 2
    · rw [ih (i - j) (by omega), gmul_zero]
    · rw [cf_big _ _ (by simp; omega), zero_gmul _ (cf_lt (isP_locL P) _)]
theorem locL_one (P : List Nat) : cf (locL P) 0 = 1 := by
  induction P with
  | nil => rfl
  | cons q P ih =>
    show cf (mulL [1, gpow 2 q] (locL P)) 0 = 1
    rw [cf_mulL _ _ (isP_locL P)]
    show 0 ^^^ gmul 1 (cf (locL P) 0) = 1
    rw [ih]
    decide
theorem locL_root (P : List Nat) (q : Nat) (h : q ∈ P) : evl (locL P) (ginv (gpow 2 q)) = 0 := by
  have hy := ginv_lt _ (pow2_ok q).1
  induction P with
  | nil => simp at h
  | cons r P ih =>
    show evl (mulL [1, gpow 2 r] (locL P)) _ = 0
    rw [evl_mul _ _ _ (isP_lin r) (isP_locL P) hy]
    rcases List.mem_cons.1 h with rfl | h
    · have e : evl [1, gpow 2 q] (ginv (gpow 2 q)) = 0 := by
        show 1 ^^^ gmul (ginv (gpow 2 q)) (gpow 2 q ^^^ gmul (ginv (gpow 2 q)) 0) = 0
        rw [gmul_zero, Nat.xor_zero, gmul_comm _ _ hy (pow2_ok q).1, gmul_ginv _ (pow2_ok q).1 (pow2_ok q).2]
        rfl
      rw [e, zero_gmul _ (evl_lt (isP_locL P) _ hy)]
    · rw [ih h, gmul_zero]
theorem locL_fits {s P : List Nat} {N : Nat} (hs : IsP s) (hf : FlipSums s N P) : Fits s N P.length (norm (locL P)) := by
  refine ⟨isP_norm (isP_locL P), by rw [cf_norm, locL_one], fun i hi => by rw [cf_norm]; exact locL_high P i hi, fun i h1 h2 => ?_⟩
  rw [gap_flips hs hf (isP_norm (isP_locL P)) (Nat.le_trans (norm_len fun j hj => locL_high P j (by omega)) (Nat.succ_le_succ h1)) h2]
  apply xsum_zero
  intro q hq
  rw [evl_eqv _ (norm_eqv _), locL_root P q hq, gmul_zero]
/-- So many powers in a row, summed with weights, give 0: then the weights are 0. -/
theorem vander {P : List Nat} {e : Nat} (z : Nat → Nat) (hz : ∀ q, z q < 8192) (hnd : P.Nodup) (h8 : ∀ q ∈ P, q < 8191) (hl : P.length ≤ e)
    (h : ∀ i, i < e → xsum (fun q => gmul (gpow 2 (i * q)) (z q)) P = 0) (q : Nat) (hq : q ∈ P) : z q = 0 := by
  have key : ∀ R : List Nat, IsP R → R.length ≤ e → xsum (fun q => gmul (evl R (gpow 2 q)) (z q)) P = 0 := by
    intro R hR hRl
    have k2 : ∀ m, m ≤ R.length → xsum (fun q => gmul (evl (R.take m) (gpow 2 q)) (z q)) P = 0 := by
      intro m
      induction m with
      | zero => intro _; exact xsum_zero fun q _ => zero_gmul _ (hz q)
      | succ m ih =>
        intro hm
        have c1 := cf_lt hR m
        have e1 : xsum (fun q => gmul (evl (R.take (m + 1)) (gpow 2 q)) (z q)) P = xsum (fun q => gmul (evl (R.take m) (gpow 2 q)) (z q) ^^^ gmul (cf R m) (gmul (gpow 2 (m * q)) (z q))) P := by
          apply xsum_congr
          intro q _
          show gmul (evl (R.take (m + 1)) (gpow 2 q)) (z q) = _
          have l1 := pow2_ok (m * q)
          rw [take_snoc_nat R m (by omega), evl_snoc _ _ _ c1 (isP_take hR m) (pow2_ok q).1, List.length_take, Nat.min_eq_left (by omega), ← gpow_mul 2 q m (by decide), Nat.mul_comm q m,
            gmul_left _ _ _ (evl_lt (isP_take hR m) _ (pow2_ok q).1) (gmul_lt _ _ c1), gmul_assoc _ _ _ c1 l1.1 (hz q)]
        rw [e1, xsum_xor, xsum_mul, ih (by omega), h m (by omega), gmul_zero]
        rfl
    have := k2 R.length (Nat.le_refl _)
    rwa [List.take_length] at this
  obtain ⟨l1, l2, rfl⟩ := List.append_of_mem hq
  have hrs : IsP ((l1 ++ l2).map (gpow 2)) := by
    intro x hx
    obtain ⟨i, _, rfl⟩ := List.mem_map.1 hx
    exact (pow2_ok i).1
  have hR := isP_norm (isP_prodl hrs)
  have hk := key (norm (prodl ((l1 ++ l2).map (gpow 2)))) hR (by rw [prodl_len hrs]; simp at hl ⊢; omega)
  have hzero : ∀ i ∈ l1 ++ l2, gmul (evl (norm (prodl ((l1 ++ l2).map (gpow 2)))) (gpow 2 i)) (z i) = 0 := fun i hi => by
    rw [evl_eqv _ (norm_eqv _), (evl_prodl_zero hrs _ (pow2_ok i).1).2 (List.mem_map.2 ⟨i, hi, rfl⟩), zero_gmul _ (hz i)]
  rw [xsum_append] at hk
  have hx1 := xsum_zero (f := fun q => gmul (evl (norm (prodl ((l1 ++ l2).map (gpow 2)))) (gpow 2 q)) (z q)) (l := l1) fun i hi => hzero i (List.mem_append_left _ hi)
  have hx2 := xsum_zero (f := fun q => gmul (evl (norm (prodl ((l1 ++ l2).map (gpow 2)))) (gpow 2 q)) (z q)) (l := l2) fun i hi => hzero i (List.mem_append_right _ hi)
  rw [hx1, Nat.zero_xor] at hk
  have hk2 : gmul (evl (norm (prodl ((l1 ++ l2).map (gpow 2)))) (gpow 2 q)) (z q) ^^^ xsum (fun q => gmul (evl (norm (prodl ((l1 ++ l2).map (gpow 2)))) (gpow 2 q)) (z q)) l2 = 0 := hk
  rw [hx2, Nat.xor_zero] at hk2
  rcases Decidable.em (z q = 0) with hzq | hzq
  · exact hzq
  · exfalso
    refine gmul_ne_zero _ _ (evl_lt hR _ (pow2_ok q).1) (hz q) (fun e0 => ?_) hzq hk2
    rw [evl_eqv _ (norm_eqv _)] at e0
    obtain ⟨i, hi, e2⟩ := List.mem_map.1 ((evl_prodl_zero hrs _ (pow2_ok q).1).1 e0)
    have hmem : i ∈ l1 ++ q :: l2 := by
      rcases List.mem_append.1 hi with h1 | h1
      · exact List.mem_append_left _ h1
      · exact List.mem_append_right _ (List.mem_cons_of_mem _ h1)
    have := two_inj i q (h8 i hmem) (h8 q hq) e2
    subst this
    have hnd2 := hnd
    rw [List.nodup_append] at hnd2
    obtain ⟨_, n2, n3⟩ := hnd2
    rcases List.mem_append.1 hi with h1 | h1
    · exact n3 i h1 i (List.mem_cons_self) rfl
    · exact (List.nodup_cons.1 n2).1 h1
/-- Where the flips are: a locator's roots below n. -/
def rts (p : List Nat) (n : Nat) : List Nat := (List.range n).filter fun i => evl p (ginv (gpow 2 i)) == 0
theorem mem_rts {p : List Nat} {n i : Nat} : i ∈ rts p n ↔ i < n ∧ evl p (ginv (gpow 2 i)) = 0 := by simp [rts]
theorem nodup_rts (p : List Nat) (n : Nat) : (rts p n).Nodup := List.Pairwise.filter _ List.nodup_range
theorem ginv_inj {a b : Nat} (ha : a < 8192) (hb : b < 8192) (h0 : a ≠ 0) (h1 : b ≠ 0) (h : ginv a = ginv b) : a = b := by
  have e : gmul a (ginv b) = 1 := by rw [← h]; exact gmul_ginv a ha h0
  have e2 : gmul b (ginv b) = 1 := gmul_ginv b hb h1
  have hi := ginv_lt b hb
  rw [gmul_comm _ _ ha hi] at e
  rw [gmul_comm _ _ hb hi] at e2
  exact (ginv_unique _ a hi ha e).trans (ginv_unique _ b hi hb e2).symm
theorem nodup_invs {P : List Nat} (hnd : P.Nodup) (h8 : ∀ q ∈ P, q < 8191) : (P.map fun q => ginv (gpow 2 q)).Nodup := by
  rw [List.Nodup, List.pairwise_map]
  refine List.Pairwise.imp_of_mem ?_ hnd
  intro a b ha hb hne e
  exact hne (two_inj a b (h8 a ha) (h8 b hb) (ginv_inj (pow2_ok a).1 (pow2_ok b).1 (pow2_ok a).2 (pow2_ok b).2 e))
theorem rts_le {p : List Nat} {n : Nat} (hp : IsP p) (hn : norm p ≠ []) (h8 : n ≤ 8191) : (rts p n).length < (norm p).length := by
  have := roots_lt ((rts p n).map fun q => ginv (gpow 2 q)) p hp hn (nodup_invs (nodup_rts p n) fun q hq => by have := (mem_rts.1 hq).1; omega) fun r hr => by
    obtain ⟨q, hq, rfl⟩ := List.mem_map.1 hr
    exact ⟨ginv_lt _ (pow2_ok q).1, (mem_rts.1 hq).2⟩
  simpa using this
/-- **Few flips are found.** -/
theorem bm_finds {s P : List Nat} {t n : Nat} (hs : IsP s) (hnd : P.Nodup) (hn : n ≤ 8191) (h8 : ∀ q ∈ P, q < n) (ht : P.length ≤ t) (hf : FlipSums s (2 * t) P) :
    (bmTo s (2 * t)).now.length = P.length + 1 ∧ ∀ i, i < n → (evl (bmTo s (2 * t)).now (ginv (gpow 2 i)) = 0 ↔ i ∈ P) := by
  have hok := bm_ok hs (2 * t)
  have hle := bm_least hs (locL_fits hs hf) (2 * t) (Nat.le_refl _)
  have hln := hok.ln
  have h8' : ∀ q ∈ P, q < 8191 := fun q hq => by have := h8 q hq; omega
  have hroot : ∀ q ∈ P, evl (bmTo s (2 * t)).now (ginv (gpow 2 q)) = 0 := by
    intro q hq
    have hv := vander (P := P) (e := P.length) (fun q => gmul (gpow 2 (((bmTo s (2 * t)).len + 1) * q)) (evl (bmTo s (2 * t)).now (ginv (gpow 2 q)))) (fun q => gmul_lt _ _ (pow2_ok _).1) hnd h8' (Nat.le_refl _)
      (fun i hi => by
        have hgap := gap_flips (i := (bmTo s (2 * t)).len + i) hs hf hok.pn (by omega) (by omega)
        rw [hok.fit _ (by omega) (by omega)] at hgap
        rw [hgap]
        apply xsum_congr
        intro q _
        have l := evl_lt hok.pn _ (ginv_lt _ (pow2_ok q).1)
        show gmul (gpow 2 (i * q)) (gmul (gpow 2 (((bmTo s (2 * t)).len + 1) * q)) _) = gmul (gpow 2 (((bmTo s (2 * t)).len + i + 1) * q)) _
        rw [← gmul_assoc _ _ _ (pow2_ok _).1 (pow2_ok _).1 l, ← gpow_add 2 _ _ (by decide), ← Nat.add_mul, show i + ((bmTo s (2 * t)).len + 1) = (bmTo s (2 * t)).len + i + 1 from by omega]) q hq
    rcases Decidable.em (evl (bmTo s (2 * t)).now (ginv (gpow 2 q)) = 0) with h | h
    · exact h
    · exact absurd hv (gmul_ne_zero _ _ (pow2_ok _).1 (evl_lt hok.pn _ (ginv_lt _ (pow2_ok q).1)) (pow2_ok _).2 h)
  have hne : norm (bmTo s (2 * t)).now ≠ [] := by
    intro e
    have := (norm_nil_iff _).1 e 0
    rw [hok.one] at this
    exact absurd this (by decide)
  have hmany := roots_lt (P.map fun q => ginv (gpow 2 q)) _ hok.pn hne (nodup_invs hnd h8') fun r hr => by
    obtain ⟨q, hq, rfl⟩ := List.mem_map.1 hr
    exact ⟨ginv_lt _ (pow2_ok q).1, hroot q hq⟩
  rw [hok.nn, List.length_map] at hmany
  refine ⟨by omega, fun i hi => ⟨fun h => ?_, hroot i⟩⟩
  rcases Decidable.em (i ∈ P) with h1 | h1
  · exact h1
  · exfalso
    have := roots_lt ((i :: P).map fun q => ginv (gpow 2 q)) _ hok.pn hne (nodup_invs (List.nodup_cons.2 ⟨h1, hnd⟩) fun q hq => by
        rcases List.mem_cons.1 hq with rfl | hq
        · omega
        · exact h8' q hq) fun r hr => by
      obtain ⟨q, hq, rfl⟩ := List.mem_map.1 hr
      refine ⟨ginv_lt _ (pow2_ok q).1, ?_⟩
      rcases List.mem_cons.1 hq with rfl | hq
      · exact h
      · exact hroot q hq
    rw [hok.nn, List.length_map, List.length_cons] at this
    omega

end Go.Proofs.YtgamakejaknagaaGreat

/-
  Plain facts for the code of layer 5 (bch): the word raised, the bits above struck out, the rest's values, turned sums, places parted; what Decode's steps make is a code word within t, or there is none.
-/
namespace Go.Proofs.YtgamakejaknagaaGreat
open Go.RowKit
set_option linter.unusedVariables false
set_option maxRecDepth 8192

/-! The word, raised; the bits above. -/
theorem pow_bits (n s : Nat) (h : s < 8 * n) (i : Nat) : bitI (turnI (List.replicate n 0) [(s : Int)]) i = if i = s then 1 else 0 := by
  have hl : (List.replicate n (0 : Int)).length = n := by simp
  have hin : inAll (List.replicate n (0 : Int)).length [(s : Int)] := by
    intro p hp
    simp at hp
    subst hp
    rw [hl]
    omega
  by_cases hi : i < 8 * n
  · rw [bitI_turnI (isB_zeros n) _ hin i (by rw [hl]; exact hi), bitI_zeros]
    by_cases e : i = s
    · subst e; simp [oddN]
    · have e' : ¬ s = i := fun h => e h.symm
      simp [oddN, e, e']
  · rw [bitI_past _ _ (by rw [length_turnI, hl]; omega), if_neg (by omega)]
theorem cf_xs (s i : Nat) : cf (xs s) i = if i = s then 1 else 0 := by
  have h := cf_mul_xs [1] s i isP_one1
  rw [mulL_comm [1] (xs s) isP_one1 (is01_xs s).isP i] at h
  have h2 := mulL_one (xs s) (is01_xs s).isP i
  rw [mulL_comm [1] (xs s) isP_one1 (is01_xs s).isP i] at h2
  rw [← h2, h]
  by_cases e : i = s
  · subst e; simp [cf]
  · rw [if_neg e]
    by_cases h3 : s ≤ i
    · rw [if_pos h3]; exact cf_big _ _ (by simp; omega)
    · rw [if_neg h3]
theorem bts_pow (n s : Nat) (h : s < 8 * n) : Eqv (bts (turnI (List.replicate n 0) [(s : Int)])) (xs s) := fun i => by
  rw [cf_bts, pow_bits n s h, cf_xs]
  split <;> rfl
theorem raised_eqv (t n : Nat) (x : List Int) (h : 13 * t < 8 * n) : Eqv (mulL (bts (turnI (List.replicate n 0) [((13 * t : Nat) : Int)])) (bts x)) (wordL t x []) := by
  refine (mulL_left (bts x) (is01_bts _).isP (is01_xs _).isP (is01_bts x).isP (bts_pow n _ h)).trans ((mulL_comm _ _ (is01_xs _).isP (is01_bts x).isP).trans fun i => ?_)
  rw [cf_mul_xs _ _ _ (is01_bts x).isP, cf_wordL]
  by_cases hi : i < 13 * t
  · rw [if_neg (by omega), if_pos hi]; rfl
  · rw [if_pos (by omega), if_neg hi]
/-- Bytes that hold the word of data alone. -/
structure Raised (t : Nat) (x z : List Int) : Prop where
  isB : IsB z
  eqv : Eqv (bts z) (wordL t x [])
  len : z.length ≤ (13 * t + 8 * x.length + 7) / 8
theorem raised_nb (t n : Nat) (x : List Int) (h : 13 * t < 8 * n) : Raised t x (nb (mulL (bts (turnI (List.replicate n 0) [((13 * t : Nat) : Int)])) (bts x))) := by
  have h01 := is01_mulL (is01_bts (turnI (List.replicate n 0) [((13 * t : Nat) : Int)])) (is01_bts x)
  have he := raised_eqv t n x h
  refine ⟨isB_nb h01, (bts_nb h01).trans he, ?_⟩
  rw [length_nb, norm_ext he]
  have := norm_length_le (wordL t x [])
  rw [length_wordL] at this
  omega
def maskI (s : Nat) : Int := ((2 : Int) ^ s - 1) % 256
theorem fin_mask : ∀ c : Fin 256, ∀ s : Fin 9, ∀ k : Fin 8, bitAt (bits .and .u8 (c.val : Int) (maskI s.val)) k.val = if k.val < s.val then bitAt (c.val : Int) k.val else 0 := by decide +kernel
theorem fin_mask_range : ∀ c : Fin 256, ∀ s : Fin 9, 0 ≤ bits .and .u8 (c.val : Int) (maskI s.val) ∧ bits .and .u8 (c.val : Int) (maskI s.val) ≤ 255 := by decide +kernel
/-- The more bytes without the bits above. -/
def lowB (t : Nat) (m : List Int) : List Int := m.set (m.length - 1) (bits .and .u8 (m[m.length - 1]?.getD 0) (maskI (13 * t - 8 * (m.length - 1))))
structure IsLow (t : Nat) (m z : List Int) : Prop where
  len : z.length = m.length
  isB : IsB z
  bit : ∀ i, bitI z i = if i < 13 * t then bitI m i else 0
theorem low_ok (t : Nat) (m : List Int) (h1 : 1 ≤ t) (h8 : t ≤ 8) (hm : m.length = (13 * t + 7) / 8) (hb : IsB m) : IsLow t m (lowB t m) := by
  have hc := hb.idx (m.length - 1)
  have hs : 13 * t - 8 * (m.length - 1) < 9 := by omega
  have hr := of_fin (P := fun c => ∀ s : Fin 9, 0 ≤ bits .and .u8 c (maskI s.val) ∧ bits .and .u8 c (maskI s.val) ≤ 255) fin_mask_range _ hc.1 hc.2 ⟨_, hs⟩
  refine ⟨by simp [lowB], ?_, fun i => ?_⟩
  · intro n hn
    rcases List.mem_or_eq_of_mem_set hn with h | h
    · exact hb n h
    · subst h; exact hr
  · unfold lowB bitI
    rw [List.getElem?_set]
    by_cases e : m.length - 1 = i / 8
    · rw [if_pos e, if_pos (by omega)]
      have := of_fin (P := fun c => ∀ s : Fin 9, ∀ k : Fin 8, bitAt (bits .and .u8 c (maskI s.val)) k.val = if k.val < s.val then bitAt c k.val else 0) fin_mask _ hc.1 hc.2 ⟨_, hs⟩ ⟨i % 8, Nat.mod_lt _ (by decide)⟩
      simp only [Option.getD_some]
      refine this.trans ?_
      show (if i % 8 < 13 * t - 8 * (m.length - 1) then bitAt (m[m.length - 1]?.getD 0) (i % 8) else 0) = _
      rw [← e]
      by_cases h : i < 13 * t
      · rw [if_pos h, if_pos (by omega)]
      · rw [if_neg h, if_neg (by omega)]
    · rw [if_neg e]
      by_cases h : i < 13 * t
      · rw [if_pos h]
      · rw [if_neg h, List.getElem?_eq_none (by omega)]
        show bitAt 0 _ = 0
        unfold bitAt
        simp
/-- The raised word and the low bits: the word. -/
theorem word_sum {t : Nat} {x m z y : List Int} (hy : Raised t x y) (h : IsLow t m z) : Eqv (addL (bts y) (bts z)) (wordL t x m) := fun i => by
  rw [cf_addL, hy.eqv i, cf_wordL, cf_wordL, cf_bts z, h.bit]
  by_cases hi : i < 13 * t
  · rw [if_pos hi, if_pos hi, if_pos hi]
    show 0 ^^^ _ = _
    rw [Nat.zero_xor, cf_bts]
  · rw [if_neg hi, if_neg hi, if_neg hi]
    show _ ^^^ 0 = _
    rw [Nat.xor_zero]

/-! The rest. -/
theorem mod_values {t : Nat} {p r : List Nat} (h : IsMod p (genTo t) r) (i : Nat) (h1 : 1 ≤ i) (h2 : i ≤ 2 * t) : evl r (gpow 2 i) = evl p (gpow 2 i) := by
  obtain ⟨a, ha, e⟩ := h.back
  have hy := pow2_ok i
  have := evl_eqv (gpow 2 i) e
  rw [evl_add, evl_mul _ _ _ (is01_genTo t).isP ha.isP hy.1, evl_gen t i (by omega) h2, zero_gmul _ (evl_lt ha.isP _ hy.1), Nat.zero_xor] at this
  exact this
theorem rest_len {t : Nat} {p r : List Nat} (ht : t ≤ 8) (h : IsMod p (genTo t) r) : (norm r).length ≤ 13 * t := by
  have := h.short
  rw [norm_genTo, length_genTo t ht] at this
  omega
/-- What Encode lays down. -/
theorem enc_laid {t : Nat} {x : List Int} {r : List Nat} (ht : t ≤ 8) (h : IsMod (wordL t x []) (genTo t) r) : IsEnc t x (nb r ++ List.replicate ((13 * t + 7) / 8 - (nb r).length) 0) := by
  have hE := enc_of_mod (o := []) ht (fun i _ => rfl) h
  have hl := rest_len ht h
  have hnl : (nb r).length ≤ (13 * t + 7) / 8 := by rw [length_nb]; omega
  have hb : IsB (nb r ++ List.replicate ((13 * t + 7) / 8 - (nb r).length) 0) := by
    intro n hn
    rcases List.mem_append.1 hn with h1 | h1
    · exact isB_nb h.hr n h1
    · have := (List.mem_replicate.1 h1).2
      omega
  have e : nb r ++ List.replicate ((13 * t + 7) / 8 - (nb r).length) 0 = pk (padB (13 * t) r) := by
    have hlen : (nb r ++ List.replicate ((13 * t + 7) / 8 - (nb r).length) 0).length = (13 * t + 7) / 8 := by simp; omega
    refine bytes_ext hb hE.isB (by rw [hlen, hE.len]) fun i _ => ?_
    rw [bitI_pk (is01_padB _ h.hr), cf_padB]
    have h1 : bitI (nb r ++ List.replicate ((13 * t + 7) / 8 - (nb r).length) 0) i = bitI (nb r) i := by
      unfold bitI
      congr 1
      by_cases hi : i / 8 < (nb r).length
      · rw [List.getElem?_append_left hi]
      · rw [List.getElem?_append_right (by omega), List.getElem?_eq_none (l := nb r) (by omega), List.getElem?_replicate]
        split <;> rfl
    rw [h1, ← cf_bts_int, bts_nb h.hr i]
    by_cases hi : i < 13 * t
    · rw [if_pos hi]
    · rw [if_neg hi, norm_above r i (by omega)]
  rw [e]
  exact hE

/-! Turned sums. -/
/-- The sums when the bits at these places are turned. -/
def turnTo (s P : List Nat) : List Nat := (List.range s.length).map fun i => cf s i ^^^ xsum (fun q => gpow 2 ((i + 1) * q)) P
/-- The first k of them turned by one place. -/
def turnPart (s : List Nat) (q k : Nat) : List Nat := (List.range s.length).map fun i => if i < k then cf s i ^^^ gpow 2 ((i + 1) * q) else cf s i
theorem cf_map_range (f : Nat → Nat) (n i : Nat) (h : i < n) : cf ((List.range n).map f) i = f i := by simp [cf, h]
theorem length_turnTo (s P : List Nat) : (turnTo s P).length = s.length := by simp [turnTo]
theorem length_turnPart (s : List Nat) (q k : Nat) : (turnPart s q k).length = s.length := by simp [turnPart]
theorem turnTo_nil (s : List Nat) : turnTo s [] = s := eq_of_cf (length_turnTo _ _) fun i hi => by
  rw [length_turnTo] at hi
  unfold turnTo
  rw [cf_map_range _ _ _ hi]
  show cf s i ^^^ 0 = _
  rw [Nat.xor_zero]
theorem turnPart_zero (s : List Nat) (q : Nat) : turnPart s q 0 = s := eq_of_cf (length_turnPart _ _ _) fun i hi => by
  rw [length_turnPart] at hi
  unfold turnPart
  rw [cf_map_range _ _ _ hi, if_neg (by omega)]
theorem cf_turnPart (s : List Nat) (q k : Nat) (hk : k < s.length) : cf (turnPart s q k) k = cf s k := by
  unfold turnPart
  rw [cf_map_range _ _ _ hk, if_neg (by omega)]
theorem turnPart_succ (s : List Nat) (q k : Nat) (hk : k < s.length) : turnPart s q (k + 1) = (turnPart s q k).set k (cf s k ^^^ gpow 2 ((k + 1) * q)) := by
  apply eq_of_cf (by simp [length_turnPart])
  intro i hi
  rw [length_turnPart] at hi
  rw [cf_set _ _ _ _ (by rw [length_turnPart]; exact hk)]
  unfold turnPart
  rw [cf_map_range _ _ _ hi, cf_map_range _ _ _ hi]
  by_cases e : i = k
  · subst e; rw [if_pos (by omega), if_pos rfl]
  · rw [if_neg e]
    by_cases h : i < k
    · rw [if_pos h, if_pos (by omega)]
    · rw [if_neg h, if_neg (by omega)]
theorem turnPart_all (s P : List Nat) (q : Nat) : turnPart (turnTo s P) q s.length = turnTo s (P ++ [q]) := by
  apply eq_of_cf (by rw [length_turnPart, length_turnTo, length_turnTo])
  intro i hi
  rw [length_turnPart, length_turnTo] at hi
  unfold turnPart
  rw [cf_map_range _ _ _ (by rw [length_turnTo]; exact hi), if_pos hi]
  unfold turnTo
  rw [cf_map_range _ _ _ hi, cf_map_range _ _ _ hi, xsum_append]
  show _ = _ ^^^ (_ ^^^ (_ ^^^ 0))
  rw [Nat.xor_zero, Nat.xor_assoc]
theorem isP_turnTo {s : List Nat} (hs : IsP s) (P : List Nat) : IsP (turnTo s P) := by
  intro x hx
  obtain ⟨i, _, rfl⟩ := List.mem_map.1 hx
  exact xor_lt _ _ (cf_lt hs i) (xsum_lt (fun q => (pow2_ok _).1) P)
theorem isP_sumsTo {p : List Nat} (hp : IsP p) (n : Nat) : IsP (sumsTo p n) := by
  intro x hx
  obtain ⟨i, _, rfl⟩ := List.mem_map.1 hx
  exact evl_lt hp _ (pow2_ok _).1
/-- Are all of them 0? -/
def cleanB (s : List Nat) : Bool := s.all fun v => v == 0
theorem cleanB_iff (s : List Nat) : cleanB s = true ↔ ∀ i, i < s.length → cf s i = 0 := by
  unfold cleanB
  rw [List.all_eq_true]
  constructor
  · intro h i hi
    have := h _ (List.getElem_mem hi)
    unfold cf
    rw [List.getElem?_eq_getElem hi]
    simpa using this
  · intro h x hx
    obtain ⟨i, hi, rfl⟩ := List.mem_iff_getElem.1 hx
    have := h i hi
    unfold cf at this
    rw [List.getElem?_eq_getElem hi] at this
    simpa using this
theorem cleanB_false {s : List Nat} {i : Nat} (hi : i < s.length) (h : cf s i ≠ 0) : cleanB s = false := by
  rcases hc : cleanB s with _ | _
  · rfl
  · exact absurd ((cleanB_iff s).1 hc i hi) h

/-! Places, parted. -/
theorem odd_nodup {l : List Nat} (h : l.Nodup) (i : Nat) : oddN (ints l) i = decide (i ∈ l) := by
  have key : ∀ (l : List Nat) (b : Bool), l.Nodup → (ints l).foldl (fun b p => if p.toNat = i then !b else b) b = if i ∈ l then !b else b := by
    intro l
    induction l with
    | nil => intro b _; rfl
    | cons a l ih =>
      intro b hnd
      obtain ⟨h1, h2⟩ := List.nodup_cons.1 hnd
      show (ints l).foldl _ (if (a : Int).toNat = i then !b else b) = _
      rw [ih _ h2]
      by_cases e : a = i
      · subst e
        rw [if_neg h1, if_pos (Int.toNat_natCast a), if_pos (List.mem_cons_self)]
      · have e' : ¬ i = a := fun h => e h.symm
        rw [if_neg (show ¬ (a : Int).toNat = i by rw [Int.toNat_natCast]; exact e)]
        by_cases hi : i ∈ l
        · rw [if_pos hi, if_pos (List.mem_cons_of_mem _ hi)]
        · rw [if_neg hi, if_neg (by simp [e', hi])]
  unfold oddN
  rw [key l false h]
  by_cases hi : i ∈ l <;> simp [hi]
/-- How many of the first ones are below f. -/
def lowCount (P : List Nat) (f : Nat) : Nat := (P.takeWhile fun q => decide (q < f)).length
theorem low_count (P : List Nat) (f : Nat) (hs : P.Pairwise (· < ·)) : P.take (lowCount P f) = P.filter (fun q => decide (q < f)) ∧ P.drop (lowCount P f) = P.filter (fun q => !decide (q < f)) ∧ lowCount P f ≤ P.length := by
  unfold lowCount
  induction P with
  | nil => simp
  | cons a P ih =>
    obtain ⟨h1, h2⟩ := List.pairwise_cons.1 hs
    obtain ⟨i1, i2, i3⟩ := ih h2
    by_cases ha : a < f
    · have hd : decide (a < f) = true := by simpa using ha
      simp only [List.takeWhile_cons, List.filter_cons, hd, if_true, List.length_cons, List.take_succ_cons, List.drop_succ_cons, Bool.not_true, Bool.false_eq_true, if_false]
      exact ⟨by rw [i1], i2, by omega⟩
    · have hd : decide (a < f) = false := by simpa using ha
      have hall : ∀ q ∈ P, decide (q < f) = false := fun q hq => by
        have := h1 q hq
        simp
        omega
      simp only [List.takeWhile_cons, List.filter_cons, hd, List.length_cons, Bool.not_false, if_true, Bool.false_eq_true, if_false, List.length_nil, List.take_zero, List.drop_zero]
      refine ⟨?_, ?_, by omega⟩
      · symm
        rw [List.filter_eq_nil_iff]
        intro q hq
        rw [hall q hq]
        decide
      · congr 1
        symm
        rw [List.filter_eq_self]
        intro q hq
        rw [hall q hq]
        rfl
theorem low_end (P : List Nat) (f k : Nat) (hk : k < P.length) (hlow : ∀ j, j < k → cf P j < f) (h : ¬ cf P k < f) : k = lowCount P f := by
  unfold lowCount
  induction P generalizing k with
  | nil => simp at hk
  | cons a P ih =>
    cases k with
    | zero =>
      have : ¬ a < f := h
      simp [this]
    | succ k =>
      have ha : a < f := hlow 0 (by omega)
      have := ih k (by simpa using hk) (fun j hj => by have := hlow (j + 1) (by omega); rwa [cf_succ] at this) (by rwa [cf_succ] at h)
      simp [ha, ← this]
theorem low_all (P : List Nat) (f : Nat) (hlow : ∀ j, j < P.length → cf P j < f) : lowCount P f = P.length := by
  unfold lowCount
  induction P with
  | nil => rfl
  | cons a P ih =>
    have ha : a < f := hlow 0 (by simp)
    have := ih fun j hj => by have := hlow (j + 1) (by simpa using hj); rwa [cf_succ] at this
    simp [ha, this]
/-- The places of data: less the first so many. -/
def lessL (f : Nat) (P : List Nat) : List Nat := P.map fun q => q - f

/-! What Decode makes. -/
theorem supp_of {p : List Nat} {n : Nat} {f : Nat → Bool} (hl : p.length = n) (h : ∀ i, i < n → cf p i = if f i then 1 else 0) : supp p = (List.range n).filter f := by
  unfold supp
  rw [hl]
  apply List.filter_congr
  intro i hi
  rw [h i (List.mem_range.1 hi)]
  cases f i <;> rfl
/-- Two words, unlike just at the places of f. -/
theorem flip_facts {p q : List Nat} {n : Nat} {f : Nat → Bool} (hp : Is01 p) (hq : Is01 q) (lp : p.length = n) (lq : q.length = n) (h : ∀ i, i < n → cf q i = cf p i ^^^ (if f i then 1 else 0)) :
    supp (addL p q) = (List.range n).filter f ∧ distTo p q n = ((List.range n).filter f).length ∧ ∀ y, y < 8192 → evl q y = evl p y ^^^ xsum (gpow y) ((List.range n).filter f) := by
  have hl : (addL p q).length = n := by rw [length_addL, lp, lq]; omega
  have hs : supp (addL p q) = (List.range n).filter f := supp_of hl fun i hi => by rw [cf_addL, h i hi, ← Nat.xor_assoc, Nat.xor_self, Nat.zero_xor]
  refine ⟨hs, ?_, fun y hy => ?_⟩
  · have := dist_supp hp hq (by omega)
    rw [hs, lp] at this
    exact this.symm
  · have := evl_supp (is01_addL hp hq) y hy
    rw [hs, evl_add] at this
    rw [← this, ← Nat.xor_assoc, Nat.xor_self, Nat.zero_xor]
theorem sorted_filter (n : Nat) (f : Nat → Bool) : ((List.range n).filter f).Pairwise (· < ·) := List.Pairwise.filter _ List.pairwise_lt_range
theorem nodup_of_sorted {l : List Nat} (h : l.Pairwise (· < ·)) : l.Nodup := h.imp fun h => by omega
/-- What is turned. -/
theorem dec_words {t : Nat} {x m z : List Int} {f : Nat → Bool} {P : List Nat} (h1 : 1 ≤ t) (h8 : t ≤ 8) (hx : IsB x) (hm : m.length = (13 * t + 7) / 8) (hz : IsLow t m z) (hP : P = (List.range (13 * t + 8 * x.length)).filter f) :
    inAll z.length (ints (P.take (lowCount P (13 * t)))) ∧ inAll x.length (ints (lessL (13 * t) (P.drop (lowCount P (13 * t))))) ∧
    (∀ i, 13 * t ≤ i → bitI (turnI z (ints (P.take (lowCount P (13 * t))))) i = 0) ∧
    ∀ i, i < 13 * t + 8 * x.length → cf (wordL t (turnI x (ints (lessL (13 * t) (P.drop (lowCount P (13 * t)))))) (turnI z (ints (P.take (lowCount P (13 * t)))))) i = cf (wordL t x m) i ^^^ (if f i then 1 else 0) := by
  have hs : P.Pairwise (· < ·) := by rw [hP]; exact sorted_filter _ _
  obtain ⟨e1, e2, _⟩ := low_count P (13 * t) hs
  have hmem : ∀ i, i ∈ P ↔ i < 13 * t + 8 * x.length ∧ f i = true := fun i => by rw [hP]; simp
  rw [e1, e2]
  have n1 : (P.filter fun q => decide (q < 13 * t)).Nodup := nodup_of_sorted (List.Pairwise.filter _ hs)
  have n2 : (lessL (13 * t) (P.filter fun q => !decide (q < 13 * t))).Nodup := by
    unfold lessL
    rw [List.Nodup, List.pairwise_map]
    refine List.Pairwise.imp_of_mem ?_ (List.Pairwise.filter (fun q => !decide (q < 13 * t)) hs)
    intro a b ha hb hlt
    have ha := (List.mem_filter.1 ha).2
    simp at ha
    omega
  have m1 : ∀ i, i ∈ (P.filter fun q => decide (q < 13 * t)) ↔ i < 13 * t ∧ i ∈ P := fun i => by simp [List.mem_filter, and_comm]
  have m2 : ∀ i, i ∈ lessL (13 * t) (P.filter fun q => !decide (q < 13 * t)) ↔ 13 * t + i ∈ P := fun i => by
    unfold lessL
    simp only [List.mem_map, List.mem_filter, Bool.not_eq_true', decide_eq_false_iff_not]
    constructor
    · rintro ⟨a, ⟨ha, hn⟩, rfl⟩
      rwa [show 13 * t + (a - 13 * t) = a from by omega]
    · intro h
      exact ⟨13 * t + i, ⟨h, by omega⟩, by omega⟩
  have in1 : inAll z.length (ints (P.filter fun q => decide (q < 13 * t))) := by
    intro p hp
    unfold ints at hp
    obtain ⟨q, hq, rfl⟩ := List.mem_map.1 hp
    have := (m1 q).1 hq
    have hzl := hz.len
    omega
  have in2 : inAll x.length (ints (lessL (13 * t) (P.filter fun q => !decide (q < 13 * t)))) := by
    intro p hp
    unfold ints at hp
    obtain ⟨q, hq, rfl⟩ := List.mem_map.1 hp
    have := (hmem _).1 ((m2 q).1 hq)
    omega
  have b1 : ∀ i, bitI (turnI z (ints (P.filter fun q => decide (q < 13 * t)))) i = if i < 13 * t then (if f i = true then 1 - bitI m i else bitI m i) else 0 := fun i => by
    have hzl := hz.len
    by_cases hi : i < 8 * z.length
    · rw [bitI_turnI hz.isB _ in1 i hi, odd_nodup n1, hz.bit]
      by_cases h3 : i < 13 * t
      · rw [if_pos h3, if_pos h3]
        by_cases hf : f i = true
        · rw [if_pos (by simp [(m1 i).2 ⟨h3, (hmem i).2 ⟨by omega, hf⟩⟩]), if_pos hf]
        · rw [if_neg (by simp; intro hh; exact absurd ((hmem i).1 hh).2 hf), if_neg hf]
      · rw [if_neg h3, if_neg (by simp; intro _; omega), if_neg h3]
    · rw [bitI_past _ _ (by rw [length_turnI]; omega), if_neg (by omega)]
  have b2 : ∀ i, i < 8 * x.length → bitI (turnI x (ints (lessL (13 * t) (P.filter fun q => !decide (q < 13 * t))))) i = if f (13 * t + i) = true then 1 - bitI x i else bitI x i := fun i hi => by
    rw [bitI_turnI hx _ in2 i hi, odd_nodup n2]
    by_cases hf : f (13 * t + i) = true
    · rw [if_pos (by simp [(m2 i).2 ((hmem _).2 ⟨by omega, hf⟩)]), if_pos hf]
    · rw [if_neg (by simp; intro hh; exact absurd ((hmem _).1 ((m2 i).1 hh)).2 hf), if_neg hf]
  refine ⟨in1, in2, fun i hi => by rw [b1, if_neg (by omega)], fun i hi => ?_⟩
  rw [cf_wordL, cf_wordL]
  by_cases h3 : i < 13 * t
  · rw [if_pos h3, if_pos h3, cf_bts, cf_bts, b1, if_pos h3]
    have h01 := bitI_01 m i
    cases hf : f i
    · simp
    · rcases h01 with h | h <;> simp [h]
  · rw [if_neg h3, if_neg h3, cf_bts, cf_bts, b2 _ (by omega), show 13 * t + (i - 13 * t) = i from by omega]
    have h01 := bitI_01 x (i - 13 * t)
    cases hf : f i
    · simp
    · rcases h01 with h | h <;> simp [h]
/-- **Clean: what was turned is a code word.** -/
theorem dec_yes {t : Nat} {x m z : List Int} {loc : List Nat} (h1 : 1 ≤ t) (h8 : t ≤ 8) (hx : IsB x) (hm : m.length = (13 * t + 7) / 8) (hz : IsLow t m z) (hlen : 13 * t + 8 * x.length ≤ 8191)
    (hp : IsP loc) (hn : norm loc = loc) (hne : loc ≠ []) (hl : loc.length - 1 ≤ t)
    (hc : cleanB (turnTo (sumsTo (wordL t x m) (2 * t)) (rts loc (13 * t + 8 * x.length))) = true) :
    IsDec t x m (turnI x (ints (lessL (13 * t) ((rts loc (13 * t + 8 * x.length)).drop (lowCount (rts loc (13 * t + 8 * x.length)) (13 * t)))))) (turnI z (ints ((rts loc (13 * t + 8 * x.length)).take (lowCount (rts loc (13 * t + 8 * x.length)) (13 * t))))) (rts loc (13 * t + 8 * x.length)).length := by
  obtain ⟨i1, i2, i3, i4⟩ := dec_words h1 h8 hx hm hz (f := fun i => evl loc (ginv (gpow 2 i)) == 0) (P := rts loc (13 * t + 8 * x.length)) rfl
  have hcount := rts_le hp (by rw [hn]; exact hne) hlen
  rw [hn] at hcount
  have ff := flip_facts (is01_wordL t x m) (is01_wordL t (turnI x (ints (lessL (13 * t) ((rts loc (13 * t + 8 * x.length)).drop (lowCount (rts loc (13 * t + 8 * x.length)) (13 * t)))))) (turnI z (ints ((rts loc (13 * t + 8 * x.length)).take (lowCount (rts loc (13 * t + 8 * x.length)) (13 * t)))))) (length_wordL _ _ _) (by rw [length_wordL, length_turnI]) i4
  have hc' := (cleanB_iff _).1 hc
  rw [length_turnTo, length_sumsTo] at hc'
  refine ⟨length_turnI _ _, by rw [length_turnI, hz.len, hm], isB_turnI hx _, isB_turnI hz.isB _, i3, fun i hi1 hi2 => ?_, ff.2.1, by omega⟩
  rw [ff.2.2 _ (pow2_ok i).1]
  have := hc' (i - 1) (by omega)
  unfold turnTo at this
  rw [cf_map_range _ _ _ (by rw [length_sumsTo]; omega), cf_sumsTo _ _ _ (by omega), show i - 1 + 1 = i from by omega] at this
  refine Eq.trans ?_ this
  have hx2 : xsum (gpow (gpow 2 i)) (rts loc (13 * t + 8 * x.length)) = xsum (fun q => gpow 2 (i * q)) (rts loc (13 * t + 8 * x.length)) := xsum_congr fun q _ => by rw [gpow_mul 2 _ _ (by decide)]
  show evl (wordL t x m) (gpow 2 i) ^^^ xsum (gpow (gpow 2 i)) (rts loc (13 * t + 8 * x.length)) = _
  rw [hx2]
/-- **Where there is a code word within t, it is found.** -/
theorem dec_found {t : Nat} {x m d k : List Int} {e : Nat} (hlen : 13 * t + 8 * x.length ≤ 8191) (h : IsDec t x m d k e) :
    (bmTo (sumsTo (wordL t x m) (2 * t)) (2 * t)).now.length - 1 ≤ t ∧
    cleanB (turnTo (sumsTo (wordL t x m) (2 * t)) (rts (bmTo (sumsTo (wordL t x m) (2 * t)) (2 * t)).now (13 * t + 8 * x.length))) = true := by
  have l1 := length_wordL t x m
  have l2 : (wordL t d k).length = 13 * t + 8 * x.length := by rw [length_wordL, h.ld]
  have hs : IsP (sumsTo (wordL t x m) (2 * t)) := isP_sumsTo (is01_wordL t x m).isP _
  have h01 := is01_addL (is01_wordL t x m) (is01_wordL t d k)
  have hal : (addL (wordL t x m) (wordL t d k)).length = 13 * t + 8 * x.length := by rw [length_addL, l1, l2]; omega
  have hcount : (supp (addL (wordL t x m) (wordL t d k))).length = e := by
    rw [dist_supp (is01_wordL t x m) (is01_wordL t d k) (by omega), l1, h.far]
  have hmem : ∀ q ∈ supp (addL (wordL t x m) (wordL t d k)), q < 13 * t + 8 * x.length := fun q hq => by
    have := (mem_supp.1 hq).1
    omega
  have hf : FlipSums (sumsTo (wordL t x m) (2 * t)) (2 * t) (supp (addL (wordL t x m) (wordL t d k))) := fun i hi => by
    have := evl_supp h01 _ (pow2_ok (i + 1)).1
    rw [evl_add, h.cw (i + 1) (by omega) (by omega), Nat.xor_zero] at this
    rw [cf_sumsTo _ _ _ hi, this]
    exact xsum_congr fun q _ => by rw [gpow_mul 2 _ _ (by decide)]
  have hn := h.near
  obtain ⟨f1, f2⟩ := bm_finds hs (nodup_supp _) hlen hmem (by omega) hf
  refine ⟨by omega, ?_⟩
  have hr : rts (bmTo (sumsTo (wordL t x m) (2 * t)) (2 * t)).now (13 * t + 8 * x.length) = supp (addL (wordL t x m) (wordL t d k)) := by
    unfold rts supp
    rw [hal]
    apply List.filter_congr
    intro i hi
    have hi := List.mem_range.1 hi
    have := f2 i hi
    rw [mem_supp] at this
    rw [Bool.eq_iff_iff]
    simp only [beq_iff_eq]
    rw [this, hal]
    exact ⟨fun h => h.2, fun h => ⟨hi, h⟩⟩
  rw [hr, cleanB_iff]
  intro i hi
  rw [length_turnTo, length_sumsTo] at hi
  unfold turnTo
  rw [cf_map_range _ _ _ (by rw [length_sumsTo]; exact hi), hf i hi, Nat.xor_self]

end Go.Proofs.YtgamakejaknagaaGreat

/-
  The code of layer 5 (bch), as it landed: mayBe, moreBytes, times, product, raised, below, rest, Bits, Encode return what the face asks.
-/
namespace Go.Proofs.YtgamakejaknagaaGreat
open Go.RowKit
set_option linter.unusedVariables false
set_option maxRecDepth 8192

set_option maxHeartbeats 400000 in
theorem exp_same (n : Int) (w : World) (h1 : -9223372036854775808 ≤ n) (h2 : n ≤ 9223372036854775807) : Calls Tryz.prog 170 #[.int .i64 n] w fun e w' => e = .returned (.int .i64 (gz 2 n : Nat)) ∧ w = w' := by
  have HG : Hid (gpow 2 (n % 8191).toNat = gz 2 n) := rfl
  go_enter Tryz.func170, Tryz.ntmps170
  go_wp2_with fail
  refine (turns_any n _ h1 h2).mono ?_
  rintro e w' ⟨rfl, rfl⟩
  go_wp2_with fail
  refine (power_int 2 (n % 8191) _ (by decide) (by omega) (by omega)).mono ?_
  rintro e w' ⟨rfl, rfl⟩
  rw [HG.out]
  go_wp2_with fail
  go_ret
  exact ⟨rfl, rfl⟩
theorem exp_nat (n : Nat) (w : World) (h2 : n ≤ 9223372036854775807) : Calls Tryz.prog 170 #[.int .i64 (n : Int)] w fun e w' => e = .returned (.int .i64 (gpow 2 n : Nat)) ∧ w = w' := by
  have := exp_same (n : Int) w (by omega) (by omega)
  rwa [gz_nat 2 n (by decide) (by decide)] at this

set_option maxHeartbeats 1600000 in
set_option maxRecDepth 100000 in
theorem bval_same (a : Option Addr) (len cap : Nat) (z : List Int) (x : Nat) (w : World) (hr : Row .u8 w a len cap z) (hb : IsB z) (hsm : len ≤ 500) (hx : x < 8192) :
    Calls Tryz.prog 169 #[.slice a len cap, .int .i64 x] w fun e w' => e = .returned (.tuple #[.int .i64 (evl (bts z) x : Nat), .int .i64 0]) ∧ w = w' := by
  have hd := bdeg_any a len cap z w hr hb (by omega)
  have HE : Hid (evl (norm (bts z)) x = evl (bts z) x) := evl_eqv x (norm_eqv _)
  have HC : Hid (∀ i, (cf (norm (bts z)) i : Int) = bitI z i) := fun i => by rw [cf_norm, cf_bts_int]
  have h01 := is01_norm (is01_bts z)
  have hle := norm_bts_le z
  rw [hr.hlen] at hle
  generalize norm (bts z) = p at *
  generalize hpl : p.length = L at *
  have HL : Hid (p.length = L) := hpl
  clear hpl
  have hx0 : (0 : Int) ≤ (x : Int) := by omega
  have hx1 : (x : Int) < 8192 := by omega
  go_enter Tryz.func169, Tryz.ntmps169
  go_wp2_with fail
  refine hd.mono ?_
  rintro e w' ⟨rfl, rfl⟩
  clear hd
  go_wp2_with fail
  go_loop [6, 7] (fun o y => ∃ k : Nat, k ≤ L ∧ y = .int .i64 ((k : Int) - 1) ∧ o = .int .i64 (evl (p.drop k) x : Nat)) (fun _ y => (intOf y + 1).toNat)
  case atStart => exact ⟨L, Nat.le_refl _, rfl, by rw [List.drop_of_length_le (by have := HL.out; omega)]; rfl⟩
  case round =>
    obtain ⟨k, hk, rfl, rfl⟩ := hrel
    cases k with
    | zero =>
      go_wp2
      go_ret2
      exact ⟨by rw [← HE.out]; rfl, rfl⟩
    | succ m =>
      rw [show ((m + 1 : Nat) : Int) - 1 = (m : Int) from by omega]
      have hdp : IsP (p.drop (m + 1)) := fun y hy => h01.isP y (List.mem_of_mem_drop hy)
      have c1 := evl_lt hdp x hx
      have c2 := gmul_lt (evl (p.drop (m + 1)) x) x c1
      have HS : Hid (evl (p.drop m) x = gmul (evl (p.drop (m + 1)) x) x ^^^ cf p m) := by
        show _ = _
        rw [drop_cons p m (by have := HL.out; omega), gmul_comm _ x c1 hx, Nat.xor_comm]
        rfl
      have c3 := h01.cf m
      have HV : Hid (bitI z m = (cf p m : Int)) := (HC.out m).symm
      generalize evl (p.drop (m + 1)) x = o at *
      go_wp2_with fail
      refine (btimes_any o x _ c1 hx).mono ?_
      rintro e w' ⟨rfl, rfl⟩
      go_wp2_with fail
      refine (bcoef_any _ _ _ m z _ hr hb (by omega) (by omega)).mono ?_
      rintro e w' ⟨rfl, rfl⟩
      rw [HV.out]
      go_wp2_with fail
      go_round
      case rel => exact ⟨m, by omega, by go_num, by rw [HS.out, xor_i64 _ _ (by omega) (by omega)]⟩
      case measure => simp [intOf]

def mayD (t : Int) (len : Nat) : Bool := decide (1 ≤ t ∧ t ≤ 8 ∧ 1 ≤ len ∧ len ≤ 512)
set_option maxHeartbeats 800000 in
theorem mayBe_any (t : Int) (a : Option Addr) (len cap : Nat) (w : World) (hl : len ≤ 512) :
    Calls Tryz.prog 138 #[.int .i64 t, .slice a len cap] w fun e w' => e = .returned (.bool (mayD t len)) ∧ w = w' := by
  have h4' : (len : Int) ≤ 512 := by omega
  by_cases h1 : 1 ≤ t
  · by_cases h2 : t ≤ 8
    · by_cases h3 : 1 ≤ len
      · have HB : Hid (mayD t len = true) := by show _ = _; unfold mayD; rw [decide_eq_true_iff]; omega
        have h3' : (1 : Int) ≤ (len : Int) := by omega
        go_enter Tryz.func138, Tryz.ntmps138
        go_wp2
        go_ret
        exact ⟨ret_bool (by rw [HB.out]; try simp), rfl⟩
      · have HB : Hid (mayD t len = false) := by show _ = _; unfold mayD; rw [decide_eq_false_iff_not]; omega
        have h3' : (len : Int) < 1 := by omega
        go_enter Tryz.func138, Tryz.ntmps138
        go_wp2
        go_ret
        exact ⟨ret_bool (by rw [HB.out]; try simp), rfl⟩
    · have HB : Hid (mayD t len = false) := by show _ = _; unfold mayD; rw [decide_eq_false_iff_not]; omega
      have h2' : 8 < t := by omega
      go_enter Tryz.func138, Tryz.ntmps138
      go_wp2
      go_ret
      exact ⟨ret_bool (by rw [HB.out]; try simp), rfl⟩
  · have HB : Hid (mayD t len = false) := by show _ = _; unfold mayD; rw [decide_eq_false_iff_not]; omega
    have h1' : t < 1 := by omega
    go_enter Tryz.func138, Tryz.ntmps138
    go_wp2
    go_ret
    exact ⟨ret_bool (by rw [HB.out]; try simp), rfl⟩

set_option maxHeartbeats 400000 in
theorem moreBytes_any (t : Nat) (w : World) (ht : t ≤ 8) : Calls Tryz.prog 139 #[.int .i64 t] w fun e w' => e = .returned (.int .i64 (((13 * t + 7) / 8 : Nat) : Int)) ∧ w = w' := by
  go_enter Tryz.func139, Tryz.ntmps139
  go_wp2
  go_ret
  exact ⟨ret_int (by omega), rfl⟩

set_option maxHeartbeats 400000 in
theorem ctimes_any (a b : Nat) (w : World) (ha : a < 8192) (hb : b < 8192) :
    Calls Tryz.prog 176 #[.int .i64 a, .int .i64 b] w fun e w' => e = .returned (.int .i64 (gmul a b : Nat)) ∧ w = w' := by
  go_enter Tryz.func176, Tryz.ntmps176
  go_wp2_with fail
  refine (gfMul_same a b _ ha hb).mono ?_
  rintro e w' ⟨rfl, rfl⟩
  go_wp2_with fail
  go_ret
  exact ⟨rfl, rfl⟩

/-- A call hands back the list r. -/
def HandsL (w : World) (r : List Nat) (e : Ending) (w' : World) : Prop :=
  ∃ a cap, e = .returned (.slice a r.length cap) ∧ Row .i64 w' a r.length cap (ints r) ∧ Below w.heap.size w w'
set_option maxHeartbeats 400000 in
theorem cproduct_any (a c : Option Addr) (len cap len' cap' : Nat) (p q : List Nat) (w : World) (hr : Row .i64 w a len cap (ints p)) (hr' : Row .i64 w c len' cap' (ints q)) (hsm : len ≤ 10000) (hsm' : len' ≤ 10000) (hp : IsP p) (hq : IsP q) :
    Calls Tryz.prog 171 #[.slice a len cap, .slice c len' cap'] w (HandsL w (norm (mulL p q))) := by
  go_enter Tryz.func171, Tryz.ntmps171
  go_wp2_with fail
  refine (pmulC.yes a c len cap len' cap' p q _ hr hr' hsm hsm' hp hq).mono ?_
  rintro e w1 ⟨a1, cp1, rfl, hrow1, hb1⟩
  go_wp2_with fail
  go_ret
  exact ⟨a1, cp1, rfl, hrow1, hb1⟩

end Go.Proofs.YtgamakejaknagaaGreat

/-
  The code of layer 5 (bch), as it landed: raised, below, rest, Bits, Encode return what the face asks.
-/
namespace Go.Proofs.YtgamakejaknagaaGreat
open Go.RowKit
set_option linter.unusedVariables false
set_option maxRecDepth 8192

set_option maxHeartbeats 1600000 in
set_option maxRecDepth 100000 in
theorem raised_bch (t : Nat) (a : Option Addr) (len cap : Nat) (x : List Int) (w : World) (hr : Row .u8 w a len cap x) (hx : IsB x) (ht : t ≤ 8) (hsm : len ≤ 400) :
    Calls Tryz.prog 141 #[.int .i64 t, .slice a len cap] w fun e w' => ∃ z, Raised t x z ∧ Gives w z e w' := by
  obtain ⟨i0, hi0, hz0, hz1, hz2⟩ := info_parts Tryz.info5
  have HR : Hid (Raised t x (nb (mulL (bts (turnI (List.replicate (13 * t / 8 + 1) 0) [((13 * t : Nat) : Int)])) (bts x)))) := raised_nb t (13 * t / 8 + 1) x (by omega)
  have e1 : IntKind.i64.wrap (13 * (t : Int)) = ((13 * t : Nat) : Int) := by rw [IntKind.wrap_i64]; omega
  have e2 : ((13 * t : Nat) : Int).tdiv 8 = ((13 * t / 8 : Nat) : Int) := by rw [Int.tdiv_eq_ediv_of_nonneg (by omega)]; omega
  have hIN : Hid (inB (13 * t / 8 + 1) [((13 * t : Nat) : Int)] = true) := by
    show _ = _
    rw [inB_iff]
    intro p hp
    simp at hp
    subst hp
    omega
  have HWF : Hid (∀ n ∈ [((13 * t : Nat) : Int)], (Lit.int .i64 n).wf = true) := by
    intro n hn
    simp at hn
    subst hn
    simp [Lit.wf, IntKind.min, IntKind.max, IntKind.signed, IntKind.bits]
    omega
  have hn1 : 13 * t / 8 + 1 ≤ 20 := by omega
  generalize hs : 13 * t = s at *
  have e3 : IntKind.i64.wrap (((s / 8 : Nat) : Int) + 1) = ((s / 8 + 1 : Nat) : Int) := by rw [IntKind.wrap_i64]; omega
  have e4 : ((s / 8 : Nat) : Int) + 1 = ((s / 8 + 1 : Nat) : Int) := by omega
  have e0 : 13 * (t : Int) = (s : Int) := by omega
  have hs8 : s ≤ 104 := by omega
  have HSE : Hid (13 * t = s) := hs
  clear hs
  generalize hN : s / 8 + 1 = n at *
  have hmax : n ≤ maxLen := by unfold maxLen; omega
  have hmk : ∀ w1 : World, w1.ownsRow w.heap.size 5 1 (.slice (some ⟨w.heap.size, 0, none⟩) n n) n (madeCells (Value.int IntKind.u8 0).cells (n * 1)).toList → w.grownBy w1 none →
      Row .u8 w1 (some ⟨w.heap.size, 0, none⟩) n n (List.replicate n 0) ∧ Below w.heap.size w w1 := fun w1 h1 h2 => by
    rw [made_ints] at h1
    exact ⟨isB_of_row h1, (Below.refl _ _).grown h2 (Nat.le_refl _) (by simp)⟩
  have HNN : Hid (s / 8 + 1 = n) := hN
  clear hN
  have hzb := isB_zeros n
  have HZL : Hid ((turnI (List.replicate n 0) [(s : Int)]).length = n) := by show _ = _; rw [length_turnI]; simp
  have hTB : IsB (turnI (List.replicate n 0) [(s : Int)]) := isB_turnI hzb _
  go_enter Tryz.func141, Tryz.ntmps141
  go_wp2_with (at_make; refine wpList_make_full _ rfl _ _ 33 rfl w.heap.size 5 i0 (.int .u8 0) 1 Tryz.underlying33 hi0 hz0 hz1 _ _ _ _ n rfl rfl (by omega) (by omega) (by rw [hz2]; omega) hmax (by omega) ?_; intro w1 hown1 hgrow1)
  obtain ⟨hrow1, hb1⟩ := hmk w1 hown1 hgrow1
  clear hmk hown1 hgrow1
  have hrow2 := hrow1.below (below_one w1 (Obj.cells #[.int .i64 (s : Int)] 3)) (Nat.le_refl _)
  have hrow3 := row_new .i64 w1 3 w1.heap.size rfl [(s : Int)] 1 rfl (by decide) #[.int .i64 (s : Int)] rfl
  refine (turn_any _ _ _ _ _ _ _ [(s : Int)] _ hrow2 hzb hrow3 HWF.out (by omega)).mono ?_
  rintro e w2 ⟨hb2, h2⟩
  rcases h2 with ⟨_, rfl, hown2⟩ | ⟨hf, _⟩
  case inr => exact absurd hf (by rw [hIN.out]; simp)
  have hrow4 := isB_of_row hown2
  have hB : Below w.heap.size w w2 := btrans (btrans hb1 (below_one _ _)) hb2
  have hr2 := hr.below hB (Nat.le_refl _)
  clear hown2 hrow1 hrow2 hrow3 hb1 hb2
  generalize (w1.alloc (Obj.cells #[Value.int .i64 (s : Int)] 3)).heap.size = g2 at *
  go_wp2_with fail
  refine (bmulC _ _ _ _ _ _ _ _ _ hrow4 hr2 hTB hx (by omega) (by omega)).mono ?_
  rintro e w3 ⟨a3, cp3, rfl, hrow5, hb5⟩
  go_wp2_with fail
  go_ret
  exact ⟨_, HR.out, a3, cp3, rfl, hrow5, btrans hB hb5⟩

theorem isMod_gen {t : Nat} {z : List Int} {p r : List Nat} (hp : Eqv (bts z) p) (h : IsMod (bts z) (bts (pk (genTo t))) r) : IsMod p (genTo t) r :=
  h.eqv hp (bts_pk (is01_genTo t)) (is01_bts _) (is01_genTo t) (Eqv.refl _) h.hr
set_option maxHeartbeats 800000 in
set_option maxRecDepth 100000 in
theorem rest_any (t : Nat) (a : Option Addr) (len cap : Nat) (z : List Int) (w : World) (hr : Row .u8 w a len cap z) (hz : IsB z) (h1 : 1 ≤ t) (ht : t ≤ 8) (hsm : len ≤ 500) :
    Calls Tryz.prog 140 #[.int .i64 t, .slice a len cap] w fun e w' => ∃ r, IsMod (bts z) (genTo t) r ∧ Gives w (nb r) e w' := by
  have HNE : Hid (norm (bts (pk (genTo t))) ≠ []) := by
    rw [gen_norm]
    intro e
    have := length_genTo t ht
    rw [e] at this
    simp at this
  have hl := bgen_len t ht
  have hB := isB_pk (is01_genTo t)
  have HMG : Hid (∀ r, IsMod (bts z) (bts (pk (genTo t))) r → IsMod (bts z) (genTo t) r) := fun r h => isMod_gen (Eqv.refl _) h
  have hgen := bgenC.yes t w h1 ht
  generalize pk (genTo t) = g at *
  go_enter Tryz.func140, Tryz.ntmps140
  go_wp2_with fail
  refine hgen.mono ?_
  rintro e w1 ⟨a1, cp1, rfl, hrow1, hb1⟩
  have hr1 := hr.below hb1 (Nat.le_refl _)
  go_wp2_with fail
  refine (bmodC.yes _ _ _ _ _ _ z g _ hr1 hrow1 hz hB hsm (by omega) HNE.out).mono ?_
  rintro e w2 ⟨r, hm, a2, cp2, rfl, hrow2, hb2⟩
  have HM : Hid _ := HMG.out r hm
  clear hm
  go_wp2_with fail
  go_ret
  exact ⟨r, HM.out, a2, cp2, rfl, hrow2, btrans hb1 hb2⟩

end Go.Proofs.YtgamakejaknagaaGreat

/-
  The code of layer 5 (bch), as it landed: below, Bits, Encode return what the face asks.
-/
namespace Go.Proofs.YtgamakejaknagaaGreat
open Go.RowKit
set_option linter.unusedVariables false
set_option maxRecDepth 8192

theorem Row.drew {k : IntKind} {w : World} {a : Option Addr} {len cap : Nat} {zs : List Int} (h : Row k w a len cap zs) : Row k w.drew a len cap zs := h.drewN 1

set_option maxHeartbeats 1600000 in
set_option maxRecDepth 100000 in
theorem below_bch (t : Nat) (c : Option Addr) (len cap : Nat) (m : List Int) (w : World) (hr : Row .u8 w c len cap m) (hm : IsB m) (h1 : 1 ≤ t) (ht : t ≤ 8) (hl : len = (13 * t + 7) / 8) :
    Calls Tryz.prog 153 #[.int .i64 t, .slice c len cap] w fun e w' => ∃ z, IsLow t m z ∧ Gives w z e w' := by
  obtain ⟨i0, hi0, hz0, hz1, hz2⟩ := info_parts Tryz.info5
  have HLow : Hid (IsLow t m (lowB t m)) := low_ok t m h1 ht (by rw [hr.hlen, hl]) hm
  have HL : Hid (m.length = len) := hr.hlen
  have HDef : Hid (lowB t m = m.set (len - 1) (bits .and .u8 (m[len - 1]?.getD 0) (maskI (13 * t - 8 * (len - 1))))) := by show _ = _; unfold lowB; rw [HL.out]
  have HLL : Hid ((lowB t m).length = len) := by show _ = _; rw [HLow.out.len, HL.out]
  obtain ⟨l, rfl⟩ : ∃ l, len = l + 1 := ⟨len - 1, by omega⟩
  rw [Nat.add_sub_cancel, Nat.mul_comm 8 l] at HDef
  have hll : l ≤ 20 := by omega
  have hmax : l + 1 ≤ maxLen := by unfold maxLen; omega
  have hmk : ∀ w1 : World, w1.ownsRow w.heap.size 5 1 (.slice (some ⟨w.heap.size, 0, none⟩) (l + 1) (l + 1)) (l + 1) (madeCells (Value.int IntKind.u8 0).cells ((l + 1) * 1)).toList → w.grownBy w1 none →
      ∃ L : List Value, L.length = l + 1 ∧ w1.heap[w.heap.size]? = some (.cells L.toArray 5 (0, 0)) ∧ Below w.heap.size w w1 := fun w1 h1 h2 =>
    ⟨_, by simpa using h1.1, heap_of_owns h1, (Below.refl _ _).grown h2 (Nat.le_refl _) (by simp)⟩
  have hci := hm.idx l
  have hsl : 8 * l ≤ 13 * t := by omega
  have hsl' : 13 * t ≤ 8 * l + 8 := by omega
  clear hl
  go_enter Tryz.func153, Tryz.ntmps153
  go_wp2_with (at_make; refine wpList_make_full _ rfl _ _ 33 rfl w.heap.size 5 i0 (.int .u8 0) 1 Tryz.underlying33 hi0 hz0 hz1 _ _ _ _ (l + 1) rfl rfl rfl rfl (by rw [hz2]; omega) hmax (Nat.le_refl _) ?_; intro w1 hown1 hgrow1)
  obtain ⟨L, hL, hg1, hb1⟩ := hmk w1 hown1 hgrow1
  obtain ⟨w2, hrun, hg2, hb2⟩ := copy_all (P := Tryz.prog) (dT := 33) (elem := 5) (ty := 3) (cap := cap) (a := c) (z := m) Tryz.underlying33 (by kernel_rfl) hg1 hL (hr.below hb1 (Nat.le_refl _)) hb1 (Nat.le_refl _)
  have hown2 : w2.ownsRow w.heap.size 5 1 (.slice (some ⟨w.heap.size, 0, none⟩) (l + 1) (l + 1)) (l + 1) (m.map (Value.int .u8)) :=
    owns_of_heap hg2 (by have := HL.out; simp; exact this) (Nat.le_refl _) hmax
  rw [hrun]
  clear hg2 hg1 hL hb1 hmk hown1 hgrow1 hrun
  have hcl := owned_cell hown2 l (by omega)
  have hfz := hown2.frozenAt l
  generalize hci2 : m[l]?.getD 0 = ci at *
  have HCI : Hid (m[l]?.getD 0 = ci) := hci2
  clear hci2
  have R := owned_set (q := l) (x := bits .and .u8 ci (maskI (13 * t - l * 8))) (Nat.le_refl _) hown2 hb2
  rw [← HDef.out] at R
  have HR : Hid _ := R
  clear R
  go_wp2
  go_region
  go_wp2
  go_ret
  have hrow := isB_of_row HR.out.1
  have hb3 := HR.out.2
  refine ⟨lowB t m, HLow.out, some ⟨w.heap.size, 0, none⟩, l + 1, by rw [HLL.out]; rfl, ?_, hb3.drew⟩
  rw [HLL.out]
  exact hrow.drew

set_option maxHeartbeats 800000 in
theorem bitsC : HBitsC where
  no := by
    intro t w h h1 h2
    rcases h with h | h
    · go_enter Tryz.func145, Tryz.ntmps145
      go_wp2
      go_ret2
      exact ⟨rfl, Below.refl _ _⟩
    · have h0 : ¬ t < 1 := by omega
      go_enter Tryz.func145, Tryz.ntmps145
      go_wp2
      go_ret2
      exact ⟨rfl, Below.refl _ _⟩
  yes := by
    intro t w h1 h2
    have ht1 : ¬ (t : Int) < 1 := by omega
    have ht2 : ¬ 8 < (t : Int) := by omega
    go_enter Tryz.func145, Tryz.ntmps145
    go_wp2
    go_ret2
    exact ⟨rfl, Below.refl _ _⟩

/-- 'copy(out, b)', out a longer row of noughts. -/
theorem copy_front {P : Program} {k : IntKind} {w0 w : World} {B g n len cap : Nat} {dT elem ty : TypeId} {a : Option Addr} {z : List Int} (hu : P.underlying dT = some (.slice elem)) (hsz : (P.info? elem).map (·.size) = some 1)
    (hg : w.heap[g]? = some (.cells ((List.replicate n (0 : Int)).map (Value.int k)).toArray elem (0, 0))) (hle : len ≤ n) (hr : Row k w a len cap z) (hb : Below B w0 w) (hB : B ≤ g) :
    ∃ w2, Sem.run P (Builtin.copy_ #[dT, dT] ty #[.slice (some ⟨g, 0, none⟩) n n, .slice a len cap]) w = .ok (.int .i64 len) w2 ∧ w2.heap[g]? = some (.cells ((z ++ List.replicate (n - len) 0).map (Value.int k)).toArray elem (0, 0)) ∧ Below B w0 w2 := by
  have hl := hr.hlen
  by_cases h0 : len = 0
  · subst h0
    have hz : z = [] := List.eq_nil_of_length_eq_zero hl
    refine ⟨w, ?_, ?_, hb⟩
    · exact run_copy_none (P := P) w dT dT ty elem _ a n n 0 cap hu hsz (by simp)
    · rw [hg, hz]
      simp
  · obtain ⟨b, off, rfl, hbs, hcell⟩ := hr.hcell (by omega)
    have hrun := run_copy_row (P := P) w dT dT ty elem g 0 n n ⟨b, off, none⟩ len cap ((List.replicate n (0 : Int)).map (Value.int k)).toArray elem (z.map (Value.int k)) hu hsz hg (by rw [List.length_map, hl]; exact (Nat.min_eq_left hle).symm) (cells_row hl hcell) (by simp; omega) (ints_oneCell _ _)
    have e1 : ((((List.replicate n (0 : Int)).map (Value.int k)).toArray.toList.take 0) ++ z.map (Value.int k) ++ ((List.replicate n (0 : Int)).map (Value.int k)).toArray.toList.drop (0 + (z.map (Value.int k)).length)) = (z ++ List.replicate (n - len) 0).map (Value.int k) := by
      simp [hl]
    rw [e1] at hrun
    refine ⟨_, ?_, setRow_heap w g _ _ elem _ hg, below_setRow hb hB _⟩
    rw [hrun]
    simp [goInt, hl]

set_option maxHeartbeats 1600000 in
set_option maxRecDepth 100000 in
theorem encC : HEncC where
  no := by
    intro t a len cap x w hr hx hsm hn h1 h2
    have HB : Hid (mayD t len = false) := by show _ = _; unfold mayD; rw [decide_eq_false_iff_not]; omega
    go_enter Tryz.func125, Tryz.ntmps125
    go_wp2_with fail
    refine (mayBe_any t a len cap _ (by omega)).mono ?_
    rintro e w' ⟨rfl, rfl⟩
    rw [HB.out]
    go_wp2_with fail
    go_ret2
    exact givesE_nil _ _
  yes := by
    intro t a len cap x w hr hx hsm h1 h8 hl
    obtain ⟨i0, hi0, hz0, hz1, hz2⟩ := info_parts Tryz.info5
    have HB : Hid (mayD t len = true) := by show _ = _; unfold mayD; rw [decide_eq_true_iff]; omega
    have HX : Hid (x.length = len) := hr.hlen
    have HEN : Hid (∀ z r, Raised t x z → IsMod (bts z) (genTo t) r → (nb r).length ≤ (13 * t + 7) / 8 ∧ IsEnc t x (nb r ++ List.replicate ((13 * t + 7) / 8 - (nb r).length) 0)) := fun z r hz hm => by
      have hm' := hm.eqv hz.eqv (Eqv.refl _) (is01_genTo t) (is01_genTo t) (Eqv.refl _) hm.hr
      have hl := rest_len h8 hm'
      exact ⟨by rw [length_nb]; omega, enc_laid h8 hm'⟩
    have hmb := moreBytes_any t
    generalize hN : (13 * t + 7) / 8 = n at *
    have hn20 : n ≤ 20 := by omega
    have HNN : Hid ((13 * t + 7) / 8 = n) := hN
    clear hN
    have hmax : n ≤ maxLen := by unfold maxLen; omega
    have hmk : ∀ w1 : World, w1.ownsRow w.heap.size 5 1 (.slice (some ⟨w.heap.size, 0, none⟩) n n) n (madeCells (Value.int IntKind.u8 0).cells (n * 1)).toList → w.grownBy w1 none →
        w1.heap[w.heap.size]? = some (.cells ((List.replicate n (0 : Int)).map (Value.int .u8)).toArray 5 (0, 0)) ∧ Below w.heap.size w w1 := fun w1 h1 h2 => by
      rw [made_ints] at h1
      exact ⟨heap_of_owns h1, (Below.refl _ _).grown h2 (Nat.le_refl _) (by simp)⟩
    go_enter Tryz.func125, Tryz.ntmps125
    go_wp2_with fail
    refine (mayBe_any t a len cap _ (by omega)).mono ?_
    rintro e w' ⟨rfl, rfl⟩
    rw [HB.out]
    go_wp2_with fail
    refine (hmb _ (by omega)).mono ?_
    rintro e w' ⟨rfl, rfl⟩
    clear hmb
    go_wp2_with (at_make; refine wpList_make_full _ rfl _ _ 33 rfl w.heap.size 5 i0 (.int .u8 0) 1 Tryz.underlying33 hi0 hz0 hz1 _ _ _ _ n rfl rfl (by omega) (by omega) (by rw [hz2]; omega) hmax (Nat.le_refl _) ?_; intro w1 hown1 hgrow1)
    obtain ⟨hg1, hb1⟩ := hmk w1 hown1 hgrow1
    clear hmk hown1 hgrow1
    have hlt : w.heap.size < w1.heap.size := by
      rcases Nat.lt_or_ge w.heap.size w1.heap.size with h | h
      · exact h
      · rw [Array.getElem?_eq_none h] at hg1; simp at hg1
    have hr1 := hr.below hb1 (Nat.le_refl _)
    refine (raised_bch t a len cap x _ hr1 hx h8 (by omega)).mono ?_
    rintro e w2 ⟨z, hz, a2, cp2, rfl, hrow2, hb2⟩
    have hzl := hz.len
    rw [HX.out] at hzl
    have hzB := hz.isB
    have HZ : Hid (Raised t x z) := hz
    clear hz
    generalize hlz : z.length = lz at *
    go_wp2_with fail
    refine (rest_any t a2 lz cp2 z _ hrow2 hzB h1 h8 (by omega)).mono ?_
    rintro e w3 ⟨r, hm, a3, cp3, rfl, hrow3, hb3⟩
    obtain ⟨hnl, hE⟩ := HEN.out z r HZ.out hm
    have HE : Hid _ := hE
    clear hE hm hrow2
    have hg3 : w3.heap[w.heap.size]? = some (.cells ((List.replicate n (0 : Int)).map (Value.int .u8)).toArray 5 (0, 0)) := by
      rw [hb3.block _ (by have := hb2.size; omega), hb2.block _ hlt, hg1]
    have hB3 : Below w.heap.size w w3 := btrans (btrans hb1 hb2) hb3
    generalize hlr : nb r = nr at *
    obtain ⟨w4, hrun, hg4, hb4⟩ := copy_front (P := Tryz.prog) (dT := 33) (elem := 5) (ty := 3) (cap := cp3) (a := a3) (z := nr) Tryz.underlying33 (by kernel_rfl) hg3 hnl hrow3 hB3 (Nat.le_refl _)
    have hlen4 : (nr ++ List.replicate (n - nr.length) 0).length = n := by simp; omega
    have HL4 : Hid ((nr ++ List.replicate (n - nr.length) 0).length = n) := hlen4
    have hrow4 : Row .u8 w4 (some ⟨w.heap.size, 0, none⟩) n n (nr ++ List.replicate (n - nr.length) 0) := isB_of_row (owns_of_heap (base := w.heap.size) hg4 (by simp; omega) (Nat.le_refl _) hmax)
    clear hg4 hg3 hg1 hlr
    generalize nr ++ List.replicate (n - nr.length) 0 = zz at *
    clear hlen4
    generalize nr.length = ln at *
    go_wp2_with fail
    go_ret2
    exact ⟨zz, HE.out, ⟨some ⟨w.heap.size, 0, none⟩, n, by rw [HL4.out]; rfl, by rw [HL4.out]; exact hrow4, hb4⟩⟩

end Go.Proofs.YtgamakejaknagaaGreat

/-
  The code of layer 5 (bch), as it landed: a row of sums behind a pointer: rowOf, turn, clean, gap return what they should.
-/
namespace Go.Proofs.YtgamakejaknagaaGreat
open Go.RowKit
set_option linter.unusedVariables false
set_option maxRecDepth 8192

/-- A row of sums: the pointer's block holds a slice, whose block holds the sums; both were made behind B. -/
structure RowAt (T : TypeId) (w : World) (B g h n : Nat) (s : List Nat) : Prop where
  box : w.cell? ⟨g, 0, none⟩ = some (.slice (some ⟨h, 0, none⟩) n n)
  own : w.ownsRow B T 1 (.slice (some ⟨h, 0, none⟩) n n) n ((ints s).map (Value.int .i64))
  hg : B ≤ g
  hh : B ≤ h
  ne : g ≠ h
theorem RowAt.len {T : TypeId} {w : World} {B g h n : Nat} {s : List Nat} (r : RowAt T w B g h n s) : s.length = n := by have := r.own.1; simpa [length_ints] using this
theorem RowAt.below {T : TypeId} {w w' : World} {B g h n : Nat} {s : List Nat} (r : RowAt T w B g h n s) (hb : Below w.heap.size w w') : RowAt T w' B g h n s :=
  ⟨by rw [hb.cell (p := ⟨g, 0, none⟩) (lt_of_cell r.box)]; exact r.box, owns_below r.own hb, r.hg, r.hh, r.ne⟩
theorem RowAt.drewN {T : TypeId} {w : World} {B g h n : Nat} {s : List Nat} (r : RowAt T w B g h n s) (k : Nat) : RowAt T (w.drewN k) B g h n s := ⟨r.box, owns_drewN r.own k, r.hg, r.hh, r.ne⟩
theorem RowAt.drew {T : TypeId} {w : World} {B g h n : Nat} {s : List Nat} (r : RowAt T w B g h n s) : RowAt T w.drew B g h n s := r.drewN 1
theorem RowAt.base {T : TypeId} {w : World} {B B' g h n : Nat} {s : List Nat} (r : RowAt T w B g h n s) (hB : B' ≤ B) : RowAt T w B' g h n s := ⟨r.box, owns_base r.own hB, by have := r.hg; omega, by have := r.hh; omega, r.ne⟩
theorem RowAt.row {T : TypeId} {w : World} {B g h n : Nat} {s : List Nat} (r : RowAt T w B g h n s) : Row .i64 w (some ⟨h, 0, none⟩) n n (ints s) := by
  obtain ⟨a, cp, hv, hrow⟩ := row_of_owns r.own
  simp only [Value.slice.injEq, true_and] at hv
  obtain ⟨rfl, rfl⟩ := hv
  exact hrow
theorem RowAt.set {T : TypeId} {w : World} {B g h n : Nat} {s : List Nat} (r : RowAt T w B g h n s) (q x : Nat) : RowAt T (w.setCell ⟨h, q, none⟩ (.int .i64 (x : Int))) B g h n (s.set q x) := by
  have R := owned_set (q := q) (x := (x : Int)) r.hh r.own (Below.refl B w)
  rw [ints_set] at R
  exact ⟨(World.cell?_of_block (Below.heap_setCell w ⟨h, q, none⟩ _ g r.ne)).trans r.box, R.1, r.hg, r.hh, r.ne⟩

set_option maxHeartbeats 1600000 in
set_option maxRecDepth 100000 in
theorem rowTurn_any (B g h n q : Nat) (s : List Nat) (w : World) (r : RowAt 3 w B g h n s) (hs : IsP s) (hq : q ≤ 100000) (hn : n ≤ 1000) :
    Calls Tryz.prog 150 #[.pointer (some ⟨g, 0, none⟩), .int .i64 q] w fun e w' => (∃ v, e = .returned v) ∧ RowAt 3 w' B g h n (turnPart s q n) ∧ w.grownBy w' (some h) := by
  have HL : Hid (s.length = n) := r.len
  have HS : Hid (∀ k, k < n → turnPart s q (k + 1) = (turnPart s q k).set k (cf s k ^^^ gpow 2 ((k + 1) * q)) ∧ cf (turnPart s q k) k = cf s k) := fun k hk => ⟨turnPart_succ s q k (by have := HL.out; omega), cf_turnPart s q k (by have := HL.out; omega)⟩
  have r0 : RowAt 3 w B g h n (turnPart s q 0) := by rw [turnPart_zero]; exact r
  have hbox0 := r.box
  have hh := r.hh
  go_enter Tryz.func150, Tryz.ntmps150
  go_wp2
  go_loopw [10] (fun y wr => ∃ i : Nat, i ≤ n ∧ y = .int .i64 i ∧ RowAt 3 wr B g h n (turnPart s q i) ∧ w.grownBy wr (some h)) (fun y _ => n - (intOf y).toNat)
  case atStart => exact ⟨0, Nat.zero_le _, rfl, r0, World.grownBy.refl _ _⟩
  case round =>
    clear r0 hbox0 r
    obtain ⟨i, hi, rfl, r, hb⟩ := hrel
    by_cases hlt : i < n
    · obtain ⟨hS1, hS2⟩ := HS.out i hlt
      have hbox := r.box
      have hcl := owned_cell r.own i hlt
      have hfz := r.own.frozenAt i
      rw [ints_get, hS2] at hcl
      have c1 := cf_lt hs i
      have c2 := (pow2_ok ((i + 1) * q)).1
      have HR : Hid _ := r.set i (cf s i ^^^ gpow 2 ((i + 1) * q))
      rw [← hS1] at HR
      have HB : Hid _ := hb.trans (grown_set wr ⟨h, i, none⟩ (.int .i64 ((cf s i ^^^ gpow 2 ((i + 1) * q) : Nat) : Int)))
      clear hS1 hS2 r hb
      have hxor := xor_i64 (cf s i) (gpow 2 ((i + 1) * q)) (by omega) (by omega)
      have hpq : (i + 1) * q ≤ 1000 * 100000 := Nat.mul_le_mul (by omega) hq
      have u0 : (q : Int) * ((i : Int) + 1) = (((i + 1) * q : Nat) : Int) := by rw [Int.natCast_mul, Int.natCast_add, Int.mul_comm]; rfl
      generalize (i + 1) * q = pq at *
      have u1 : IntKind.i64.wrap ((pq : Nat) : Int) = (pq : Int) := by rw [IntKind.wrap_i64]; omega
      generalize cf s i = x at *
      have u5 : (i : Int) < (n : Int) := by omega
      have u2 : IntKind.i64.wrap ((i : Int) + 1) = (i : Int) + 1 := by rw [IntKind.wrap_i64]; omega
      go_wp2
      go_region_with (first
        | (go_at_call 170; refine (exp_nat pq _ (by omega)).mono ?_; rintro e w' ⟨rfl, rfl⟩))
      all_goals
        go_wp2
        go_roundw
        case rel => exact ⟨i + 1, by omega, by go_num, HR.out.drew, HB.out.trans (grown_drewN _ 1 _)⟩
        case measure => simp [intOf]; omega
    · have e : i = n := by omega
      subst e
      go_wp2
      go_end0
      exact ⟨⟨_, rfl⟩, r, hb⟩

set_option maxHeartbeats 800000 in
set_option maxRecDepth 100000 in
theorem rowClean_any (B g h n : Nat) (s : List Nat) (w : World) (r : RowAt 3 w B g h n s) (hn : n ≤ 1000) :
    Calls Tryz.prog 151 #[.pointer (some ⟨g, 0, none⟩)] w fun e w' => e = .returned (.bool (cleanB s)) ∧ w = w' := by
  have HL : Hid (s.length = n) := r.len
  have HT : Hid ((∀ i, i < n → cf s i = 0) → cleanB s = true) := fun h => (cleanB_iff s).2 fun i hi => h i (by have := HL.out; omega)
  have HF : Hid (∀ i, i < n → cf s i ≠ 0 → cleanB s = false) := fun i hi h => cleanB_false (by have := HL.out; omega) h
  have hbox := r.box
  have hrow := r.row
  clear r
  go_enter Tryz.func151, Tryz.ntmps151
  go_wp2
  go_loop [10] (fun y => ∃ i : Nat, i ≤ n ∧ y = .int .i64 i ∧ ∀ j, j < i → cf s j = 0) (fun y => n - (intOf y).toNat)
  case atStart => exact ⟨0, Nat.zero_le _, rfl, fun j hj => absurd hj (by omega)⟩
  case round =>
    obtain ⟨i, hi, rfl, hall0⟩ := hrel
    have hall : Hid (∀ j, j < i → cf s j = 0) := hall0
    clear hall0
    by_cases hlt : i < n
    · obtain ⟨b, off, he, hbs, hcell⟩ := hrow.hcell (by omega)
      simp only [Option.some.injEq, Addr.mk.injEq, and_true] at he
      obtain ⟨rfl, rfl⟩ := he
      have hc1 := hcell i hlt
      rw [ints_get, Nat.zero_add] at hc1
      clear hcell
      have hii : (i : Int) < (n : Int) := by omega
      by_cases hv : cf s i = 0
      · have HV : Hid (cf s i = 0) := hv
        rw [hv] at hc1
        clear hv
        go_wp2
        go_round
        case rel =>
          refine ⟨i + 1, by omega, by go_num, fun j hj => ?_⟩
          by_cases e : j = i
          · subst e; exact HV.out
          · exact hall.out j (by omega)
        case measure => simp [intOf]; omega
      · have HV : Hid (cleanB s = false) := HF.out i hlt hv
        have hq : (((cf s i : Nat) : Int) != 0) = true := by simp; omega
        clear hv
        go_wp2
        go_ret
        exact ⟨ret_bool HV.out.symm, rfl⟩
    · have HV : Hid (cleanB s = true) := HT.out fun j hj => hall.out j (by omega)
      go_wp2
      go_ret
      exact ⟨ret_bool HV.out.symm, rfl⟩

set_option maxHeartbeats 1600000 in
set_option maxRecDepth 100000 in
theorem rowGap_any (B g h n : Nat) (s : List Nat) (a : Option Addr) (len cap : Nat) (p : List Nat) (k : Nat) (w : World) (r : RowAt 3 w B g h n s) (hs : IsP s) (hr : Row .i64 w a len cap (ints p)) (hp : IsP p) (hn : n ≤ 1000) (hk : k < n) (hl : len ≤ k + 1) (h0 : 0 < len) :
    Calls Tryz.prog 172 #[.pointer (some ⟨g, 0, none⟩), .slice a len cap, .int .i64 k] w fun e w' => e = .returned (.int .i64 (cf (mulL p s) k : Nat)) ∧ w = w' := by
  have HL : Hid (p.length = len) := by have := hr.hlen; rwa [length_ints] at this
  have HLs : Hid (s.length = n) := r.len
  have HEND : Hid (cv p s k len = cf (mulL p s) k) := cv_stop p s hs k len hl (.inr (by have := HL.out; omega))
  have hbox := r.box
  have hrow := r.row
  clear r
  have hcap := hrow.hcap
  have v1 : (0 : Int) ≤ (k : Int) + 1 - (len : Int) := by omega
  have v2 : (k : Int) + 1 - (len : Int) ≤ (k : Int) + 1 := by omega
  have v3 : (k : Int) + 1 ≤ (n : Int) := by omega
  have v4 : ((k : Int) + 1 - (len : Int)).toNat = k + 1 - len := by omega
  have v5 : ((k : Int) + 1).toNat = k + 1 := by omega
  obtain ⟨o, ho⟩ : ∃ o, k + 1 - len = o := ⟨_, rfl⟩
  have HC : Hid (∀ i, i < len → w.cell? ⟨h, o + (len - 1 - i), none⟩ = some (.int .i64 (cf s (k - i) : Nat))) := fun i hi => by
    obtain ⟨b, off, he, hbs, hcell⟩ := hrow.hcell (by omega)
    simp only [Option.some.injEq, Addr.mk.injEq, and_true] at he
    obtain ⟨rfl, rfl⟩ := he
    have hc1 := hcell (k - i) (by omega)
    rw [ints_get, Nat.zero_add] at hc1
    rw [show o + (len - 1 - i) = k - i from by omega]
    exact hc1
  have ho2 : k + 1 - o = len := by omega
  go_enter Tryz.func172, Tryz.ntmps172
  go_wp2
  try rw [ho2]
  clear v1 v2 v3 v4 v5 hrow hcap
  have HO : Hid (k + 1 - len = o) := ho
  clear ho ho2
  go_loop [8, 27] (fun v y => ∃ i : Nat, i ≤ len ∧ y = .int .i64 i ∧ v = .int .i64 (cv p s k i : Nat)) (fun _ y => len - (intOf y).toNat)
  case atStart => exact ⟨0, Nat.zero_le _, rfl, rfl⟩
  case round =>
    obtain ⟨i, hi, rfl, rfl⟩ := hrel
    by_cases hlt : i < len
    · obtain ⟨b, off, rfl, hbs, hcell⟩ := hr.hcell (by omega)
      have hc1 := hcell i hlt
      rw [ints_get] at hc1
      clear hcell
      have hc2 := HC.out i hlt
      have c1 := cf_lt hp i
      have c2 := cf_lt hs (k - i)
      have c3 := gmul_lt (cf p i) (cf s (k - i)) c1
      have c4 := cv_lt s hp k i
      have HS : Hid (cv p s k (i + 1) = cv p s k i ^^^ gmul (cf p i) (cf s (k - i))) := rfl
      generalize cv p s k i = oo at *
      generalize hlj : len - 1 - i = j at *
      have u1 : IntKind.i64.wrap ((len : Int) - 1) = (len : Int) - 1 := by rw [IntKind.wrap_i64]; omega
      have u2 : IntKind.i64.wrap ((len : Int) - 1 - (i : Int)) = (j : Int) := by rw [IntKind.wrap_i64]; omega
      have u2' : (len : Int) - 1 - (i : Int) = (j : Int) := by omega
      have u3 : (j : Int) < (len : Int) := by omega
      have u5 : (i : Int) < (len : Int) := by omega
      clear hlj
      go_wp2_with fail
      refine (ctimes_any (cf p i) (cf s (k - i)) _ c1 c2).mono ?_
      rintro e w' ⟨rfl, rfl⟩
      go_wp2_with fail
      go_round
      case rel => exact ⟨i + 1, by omega, by go_num, by rw [HS.out, xor_i64 _ _ (by omega) (by omega)]⟩
      case measure => simp [intOf]; omega
    · have e : i = len := by omega
      subst e
      rw [HEND.out]
      go_wp2
      go_ret
      exact ⟨rfl, rfl⟩

end Go.Proofs.YtgamakejaknagaaGreat
