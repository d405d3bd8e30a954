/-
  Plain mathematics for the code of layer 5 (bch): Berlekamp's and Massey's rounds keep what they should; no rule that fits all sums is shorter; where few bits were flipped, what they find is 0 at just the inverses of w's powers of their places.
-/
import Derived.Test.YtjiaomkjebbkpabPolyCodePlain
import Derived.Test.YtjiaomkjebbkpabBchPlain2
namespace Go.Proofs.Ytjiaomkjebbkpab
set_option linter.unusedVariables false

theorem isP_01 : IsP [0, 1] := fun x hx => by simp at hx; omega
theorem isP_one_g {g : Nat} (hg : g < 8192) : IsP [g] := fun x hx => by simp at hx; omega
theorem mul_x (p : List Nat) (hp : IsP p) : Eqv (mulL p [0, 1]) (0 :: p) :=
  (mulL_comm p [0, 1] hp isP_01).trans ((zero_cons_mulL [1] p hp).trans (eqv_cons (mulL_one p hp)))
theorem mul_const (p : List Nat) (g : Nat) (hp : IsP p) (hg : g < 8192) : Eqv (mulL p [g]) (smul g p) := fun i => by
  rw [mulL_cons_right p g [] hp hg i, cf_addL]
  have h0 : cf (0 :: mulL p []) i = 0 := by
    cases i with
    | zero => rfl
    | succ i => rw [cf_succ, mulL_nil p i]; rfl
  rw [h0, Nat.xor_zero]
theorem mul_x_s (p s : List Nat) (hp : IsP p) (hs : IsP s) (i : Nat) : cf (mulL (norm (mulL p [0, 1])) s) (i + 1) = cf (mulL p s) i := by
  have h1 := mulL_left s (isP_norm (isP_mulL [0, 1] hp)) (isP_zero_cons hp) hs ((norm_eqv _).trans (mul_x p hp)) (i + 1)
  rw [h1, zero_cons_mulL p s hs (i + 1), cf_succ]
theorem mul_const_s (p s : List Nat) (g : Nat) (hp : IsP p) (hs : IsP s) (hg : g < 8192) (i : Nat) : cf (mulL (norm (mulL p [g])) s) i = gmul g (cf (mulL p s) i) := by
  have h1 := mulL_left s (isP_norm (isP_mulL [g] hp)) (isP_smul hg) hs ((norm_eqv _).trans (mul_const p g hp hg)) i
  rw [h1, smul_mulL g p s hg hp hs i, cf_smul]
theorem add_s (p q s : List Nat) (hp : IsP p) (hq : IsP q) (hs : IsP s) (i : Nat) : cf (mulL (norm (addL p q)) s) i = cf (mulL p s) i ^^^ cf (mulL q s) i := by
  have h1 := mulL_left s (isP_norm (isP_addL hp hq)) (isP_addL hp hq) hs (norm_eqv _) i
  rw [h1, mulL_add_left p q s hp hq hs i, cf_addL]
theorem cf_x (p : List Nat) (hp : IsP p) (i : Nat) : cf (norm (mulL p [0, 1])) i = cf (0 :: p) i := by rw [cf_norm, mul_x p hp i]
theorem cf_const (p : List Nat) (g : Nat) (hp : IsP p) (hg : g < 8192) (i : Nat) : cf (norm (mulL p [g])) i = gmul g (cf p i) := by rw [cf_norm, mul_const p g hp hg i, cf_smul]

/-! The rounds. -/
structure Bm where
  now : List Nat
  bef : List Nat
  len : Nat
def gapN (s : List Nat) (st : Bm) (n : Nat) : Nat := cf (mulL st.now s) n
def bmStep (s : List Nat) (n : Nat) (st : Bm) : Bm :=
  if gapN s st n = 0 then ⟨st.now, norm (mulL st.bef [0, 1]), st.len⟩
  else if 2 * st.len ≤ n then ⟨norm (addL st.now (norm (mulL (norm (mulL st.bef [0, 1])) [gapN s st n]))), norm (mulL st.now [ginv (gapN s st n)]), n + 1 - st.len⟩
  else ⟨norm (addL st.now (norm (mulL (norm (mulL st.bef [0, 1])) [gapN s st n]))), norm (mulL st.bef [0, 1]), st.len⟩
def bmTo (s : List Nat) : Nat → Bm
  | 0 => ⟨[1], [1], 0⟩
  | n + 1 => bmStep s n (bmTo s n)
/-- What the rounds keep. -/
structure BmOk (s : List Nat) (n : Nat) (st : Bm) : Prop where
  pn : IsP st.now
  pb : IsP st.bef
  nn : norm st.now = st.now
  len : st.len ≤ n
  ln : st.now.length ≤ st.len + 1
  lb : st.bef.length ≤ n - st.len + 1
  one : cf st.now 0 = 1
  fit : ∀ i, st.len ≤ i → i < n → cf (mulL st.now s) i = 0
  old : ∀ i, n ≤ i + st.len → i < n → cf (mulL st.bef s) i = if i + 1 = n then 1 else 0
theorem norm_len {p : List Nat} {n : Nat} (h : ∀ i, n ≤ i → cf p i = 0) : (norm p).length ≤ n := norm_len_le p n h
theorem bm_zero (s : List Nat) : BmOk s 0 (bmTo s 0) :=
  ⟨isP_one1, isP_one1, (by show norm [1] = [1]; decide), Nat.le_refl _, Nat.le_refl _, Nat.le_refl _, rfl, fun i _ h => absurd h (by omega), fun i _ h => absurd h (by omega)⟩
theorem gap_lt {s : List Nat} {n : Nat} {st : Bm} (h : BmOk s n st) (m : Nat) : gapN s st m < 8192 := cf_lt (isP_mulL s h.pn) m
theorem len_x {p : List Nat} {n : Nat} (hp : IsP p) (h : p.length ≤ n) : (norm (mulL p [0, 1])).length ≤ n + 1 := by
  apply norm_len
  intro i hi
  rw [mul_x p hp i]
  cases i with
  | zero => omega
  | succ i => rw [cf_succ]; exact cf_big _ _ (by omega)
theorem len_const {p : List Nat} {n g : Nat} (hp : IsP p) (hg : g < 8192) (h : p.length ≤ n) : (norm (mulL p [g])).length ≤ n := by
  apply norm_len
  intro i hi
  rw [mul_const p g hp hg i, cf_smul, cf_big _ _ (by omega), gmul_zero]
theorem len_add {p q : List Nat} {n : Nat} (h1 : p.length ≤ n) (h2 : q.length ≤ n) : (norm (addL p q)).length ≤ n := by
  apply norm_len
  intro i hi
  rw [cf_addL, cf_big _ _ (by omega), cf_big _ _ (by omega)]
  rfl
/-- The next rule: it fits one sum more. -/
theorem next_ok {s : List Nat} {n : Nat} {st : Bm} (hs : IsP s) (h : BmOk s n st) (L : Nat) (h1 : st.len ≤ L) (h2 : n + 1 ≤ L + st.len) (h3 : L ≤ n + 1) :
    let nx := norm (addL st.now (norm (mulL (norm (mulL st.bef [0, 1])) [gapN s st n])))
    IsP nx ∧ norm nx = nx ∧ nx.length ≤ L + 1 ∧ cf nx 0 = 1 ∧ ∀ i, L ≤ i → i < n + 1 → cf (mulL nx s) i = 0 := by
  intro nx
  have hg := gap_lt h n
  have px : IsP (norm (mulL st.bef [0, 1])) := isP_norm (isP_mulL _ h.pb)
  have pc : IsP (norm (mulL (norm (mulL st.bef [0, 1])) [gapN s st n])) := isP_norm (isP_mulL _ px)
  have hlen := h.len
  refine ⟨isP_norm (isP_addL h.pn pc), norm_norm _, ?_, ?_, ?_⟩
  · refine len_add (by have := h.ln; omega) (len_const px hg ?_)
    have := len_x (n := n - st.len + 1) h.pb h.lb
    omega
  · show cf (norm (addL st.now _)) 0 = 1
    rw [cf_norm, cf_addL, h.one, cf_const _ _ px hg, cf_x _ h.pb, cf_zero, gmul_zero]
    rfl
  · intro i hi hin
    show cf (mulL (norm (addL st.now _)) s) i = 0
    rw [add_s _ _ s h.pn pc hs, mul_const_s _ s _ px hs hg]
    cases i with
    | zero => omega
    | succ j =>
      rw [mul_x_s _ s h.pb hs, h.old j (by omega) (by omega)]
      by_cases e : j + 1 = n
      · rw [if_pos e, gmul_one _ hg, e]
        exact Nat.xor_self _
      · rw [if_neg e, gmul_zero, h.fit (j + 1) (by omega) (by omega)]
        rfl
theorem bm_step {s : List Nat} {n : Nat} {st : Bm} (hs : IsP s) (h : BmOk s n st) : BmOk s (n + 1) (bmStep s n st) := by
  have hg := gap_lt h n
  have hlen := h.len
  have px : IsP (norm (mulL st.bef [0, 1])) := isP_norm (isP_mulL _ h.pb)
  have hold : ∀ i, n + 1 ≤ i + st.len → i < n + 1 → cf (mulL (norm (mulL st.bef [0, 1])) s) i = if i + 1 = n + 1 then 1 else 0 := by
    intro i h1 h2
    cases i with
    | zero => omega
    | succ j =>
      rw [mul_x_s _ s h.pb hs, h.old j (by omega) (by omega)]
      by_cases e : j + 1 = n
      · rw [if_pos e, if_pos (by omega)]
      · rw [if_neg e, if_neg (by omega)]
  have hlb : (norm (mulL st.bef [0, 1])).length ≤ n + 1 - st.len + 1 := by
    have := len_x (n := n - st.len + 1) h.pb h.lb
    omega
  unfold bmStep
  by_cases h0 : gapN s st n = 0
  · rw [if_pos h0]
    refine ⟨h.pn, px, h.nn, (by show st.len ≤ n + 1; omega), h.ln, hlb, h.one, ?_, hold⟩
    intro i h1 h2
    by_cases e : i = n
    · subst e; exact h0
    · exact h.fit i h1 (by omega)
  · rw [if_neg h0]
    by_cases h2 : 2 * st.len ≤ n
    · rw [if_pos h2]
      have hi := ginv_lt _ hg
      obtain ⟨a1, a2, a3, a4, a5⟩ := next_ok hs h (n + 1 - st.len) (by omega) (by omega) (by omega)
      refine ⟨a1, isP_norm (isP_mulL _ h.pn), a2, ?_, a3, ?_, a4, a5, ?_⟩
      · show n + 1 - st.len ≤ n + 1
        omega
      · show (norm (mulL st.now [ginv (gapN s st n)])).length ≤ n + 1 - (n + 1 - st.len) + 1
        have := len_const (n := st.len + 1) h.pn hi h.ln
        omega
      · intro i h3 h4
        have h3' : n + 1 ≤ i + (n + 1 - st.len) := h3
        show cf (mulL (norm (mulL st.now [ginv (gapN s st n)])) s) i = _
        rw [mul_const_s _ s _ h.pn hs hi]
        by_cases e : i = n
        · subst e
          rw [if_pos rfl]
          show gmul (ginv (gapN s st i)) (gapN s st i) = 1
          rw [gmul_comm _ _ hi hg, gmul_ginv _ hg h0]
        · rw [if_neg (by omega), h.fit i (by omega) (by omega), gmul_zero]
    · rw [if_neg h2]
      obtain ⟨a1, a2, a3, a4, a5⟩ := next_ok hs h st.len (Nat.le_refl _) (by omega) (by omega)
      exact ⟨a1, px, a2, by show st.len ≤ n + 1; omega, a3, hlb, a4, a5, hold⟩
theorem bm_ok {s : List Nat} (hs : IsP s) (n : Nat) : BmOk s n (bmTo s n) := by
  induction n with
  | zero => exact bm_zero s
  | succ n ih => exact bm_step hs ih

/-! No rule that fits is shorter. -/
theorem cv_none (p q : List Nat) (k m : Nat) (h : ∀ j, j < m → gmul (cf p j) (cf q (k - j)) = 0) : cv p q k m = 0 := by
  induction m with
  | zero => rfl
  | succ m ih => show cv p q k m ^^^ gmul (cf p m) (cf q (k - m)) = 0; rw [ih fun j hj => h j (by omega), h m (by omega)]; rfl
theorem cv_first (p q : List Nat) (k m : Nat) (h : ∀ j, 0 < j → j < m + 1 → gmul (cf p j) (cf q (k - j)) = 0) : cv p q k (m + 1) = gmul (cf p 0) (cf q k) := by
  induction m with
  | zero => show 0 ^^^ _ = _; rw [Nat.zero_xor]; rfl
  | succ m ih =>
    show cv p q k (m + 1) ^^^ gmul (cf p (m + 1)) (cf q (k - (m + 1))) = _
    rw [ih fun j h1 h2 => h j h1 (by omega), h (m + 1) (by omega) (by omega), Nat.xor_zero]
/-- A rule that fits the first N sums. -/
structure Fits (s : List Nat) (N e : Nat) (r : List Nat) : Prop where
  p : IsP r
  one : cf r 0 = 1
  short : ∀ i, e < i → cf r i = 0
  fit : ∀ i, e ≤ i → i < N → cf (mulL r s) i = 0
theorem massey {s : List Nat} {n N e : Nat} {st : Bm} {r : List Nat} (hs : IsP s) (h : BmOk s n st) (hr : Fits s N e r) (hn : n < N) (hg : gapN s st n ≠ 0) : n < e + st.len := by
  rcases Nat.lt_or_ge n (e + st.len) with hc | hc
  · exact hc
  · exfalso
    have pa := isP_mulL s h.pn
    have pr := isP_mulL s hr.p
    have e1 : cf (mulL r (mulL st.now s)) n = gapN s st n := by
      rw [cf_mulL r _ pa n, cv_first, hr.one, one_gmul _ (cf_lt pa n)]
      · rfl
      · intro j h1 h2
        by_cases hj : j ≤ e
        · rw [h.fit (n - j) (by omega) (by omega), gmul_zero]
        · rw [hr.short j (by omega), zero_gmul _ (cf_lt pa _)]
    have e2 : cf (mulL st.now (mulL r s)) n = 0 := by
      rw [cf_mulL _ _ pr n]
      apply cv_none
      intro j hj
      by_cases hl : j ≤ st.len
      · rw [hr.fit (n - j) (by omega) (by omega), gmul_zero]
      · rw [cf_big st.now j (by have := h.ln; omega), zero_gmul _ (cf_lt pr _)]
    have e3 : Eqv (mulL r (mulL st.now s)) (mulL st.now (mulL r s)) :=
      (mulL_assoc r st.now s hr.p h.pn hs).symm.trans ((mulL_left s (isP_mulL _ hr.p) (isP_mulL _ h.pn) hs (mulL_comm r st.now hr.p h.pn)).trans (mulL_assoc st.now r s h.pn hr.p hs))
    have := e3 n
    rw [e1, e2] at this
    exact hg this
theorem bm_least {s : List Nat} {N e : Nat} {r : List Nat} (hs : IsP s) (hr : Fits s N e r) (n : Nat) (hn : n ≤ N) : (bmTo s n).len ≤ e := by
  induction n with
  | zero => exact Nat.zero_le _
  | succ n ih =>
    have ih := ih (by omega)
    have hok := bm_ok hs n
    have hlen := hok.len
    show (bmStep s n (bmTo s n)).len ≤ e
    unfold bmStep
    by_cases h0 : gapN s (bmTo s n) n = 0
    · rw [if_pos h0]; exact ih
    · rw [if_neg h0]
      have := massey hs hok hr (by omega) h0
      by_cases h2 : 2 * (bmTo s n).len ≤ n
      · rw [if_pos h2]; show n + 1 - (bmTo s n).len ≤ e; omega
      · rw [if_neg h2]; exact ih

/-! Sums of flips. -/
/-- s are the sums of flips at these places. -/
def FlipSums (s : List Nat) (N : Nat) (P : List Nat) : Prop := ∀ i, i < N → cf s i = xsum (fun q => gpow 2 ((i + 1) * q)) P
theorem inv_pow (q m : Nat) : gmul (gpow 2 (m * q)) (gpow (ginv (gpow 2 q)) m) = 1 := by
  have h := pow2_ok q
  rw [Nat.mul_comm, gpow_mul 2 q m (by decide), ← gmul_gpow _ _ m h.1 (ginv_lt _ h.1), gmul_ginv _ h.1 h.2, one_gpow]
theorem gap_flips {s P p : List Nat} {N i : Nat} (hs : IsP s) (hf : FlipSums s N P) (hp : IsP p) (hl : p.length ≤ i + 1) (hi : i < N) :
    cf (mulL p s) i = xsum (fun q => gmul (gpow 2 ((i + 1) * q)) (evl p (ginv (gpow 2 q)))) P := by
  have key : ∀ m, m ≤ p.length → cv p s i m = xsum (fun q => gmul (gpow 2 ((i + 1) * q)) (evl (p.take m) (ginv (gpow 2 q)))) P := by
    intro m
    induction m with
    | zero => intro _; exact (xsum_zero fun q _ => gmul_zero _).symm
    | succ m ih =>
      intro hm
      have ih := ih (by omega)
      have c1 := cf_lt hp m
      have e : xsum (fun q => gmul (gpow 2 ((i + 1) * q)) (evl (p.take (m + 1)) (ginv (gpow 2 q)))) P =
          xsum (fun q => gmul (gpow 2 ((i + 1) * q)) (evl (p.take m) (ginv (gpow 2 q))) ^^^ gmul (cf p m) (gpow 2 ((i - m + 1) * q))) P := by
        apply xsum_congr
        intro q _
        show gmul (gpow 2 ((i + 1) * q)) (evl (p.take (m + 1)) (ginv (gpow 2 q))) = _
        have hy := ginv_lt _ (pow2_ok q).1
        have l1 := gpow_lt (ginv (gpow 2 q)) m hy
        have l2 := pow2_ok ((i - m + 1) * q)
        have l3 := pow2_ok (m * q)
        rw [take_snoc_nat p m (by omega), evl_snoc _ _ _ c1 (isP_take hp m) hy, List.length_take, Nat.min_eq_left (by omega), gmul_right]
        congr 1
        rw [show (i + 1) * q = (i - m + 1) * q + m * q from by rw [← Nat.add_mul]; congr 1; omega, gpow_add 2 _ _ (by decide), gmul_comm (cf p m) _ c1 l1,
          gmul_assoc _ _ _ l2.1 l3.1 (gmul_lt _ _ l1), ← gmul_assoc _ _ _ l3.1 l1 c1, inv_pow, one_gmul _ c1, gmul_comm _ _ l2.1 c1]
      show cv p s i m ^^^ gmul (cf p m) (cf s (i - m)) = _
      rw [e, xsum_xor, xsum_mul, ← ih, hf (i - m) (by omega)]
  have h1 := key p.length (Nat.le_refl _)
  rw [List.take_length] at h1
  rw [← h1]
  exact (cv_stop p s hs i p.length hl (.inr (Nat.le_refl _))).symm
/-- The rule of flips. -/
def locL : List Nat → List Nat
  | [] => [1]
  | q :: P => mulL [1, gpow 2 q] (locL P)
theorem isP_lin (q : Nat) : IsP [1, gpow 2 q] := fun x hx => by
  simp at hx
  have := (pow2_ok q).1
  omega
theorem isP_locL (P : List Nat) : IsP (locL P) := by
  cases P with
  | nil => exact isP_one1
  | cons q P => exact isP_mulL _ (isP_lin q)
theorem locL_high (P : List Nat) (i : Nat) (h : P.length < i) : cf (locL P) i = 0 := by
  induction P generalizing i with
  | nil => exact cf_big _ _ (by simp [locL]; simp at h; omega)
  | cons q P ih =>
    simp at h
    show cf (mulL [1, gpow 2 q] (locL P)) i = 0
    rw [cf_mulL _ _ (isP_locL P)]
    apply cv_none
    intro j hj
    by_cases h2 : j < 2
    · rw [ih (i - j) (by omega), gmul_zero]
    · rw [cf_big _ _ (by simp; omega), zero_gmul _ (cf_lt (isP_locL P) _)]
theorem locL_one (P : List Nat) : cf (locL P) 0 = 1 := by
  induction P with
  | nil => rfl
  | cons q P ih =>
    show cf (mulL [1, gpow 2 q] (locL P)) 0 = 1
    rw [cf_mulL _ _ (isP_locL P)]
    show 0 ^^^ gmul 1 (cf (locL P) 0) = 1
    rw [ih]
    decide
theorem locL_root (P : List Nat) (q : Nat) (h : q ∈ P) : evl (locL P) (ginv (gpow 2 q)) = 0 := by
  have hy := ginv_lt _ (pow2_ok q).1
  induction P with
  | nil => simp at h
  | cons r P ih =>
    show evl (mulL [1, gpow 2 r] (locL P)) _ = 0
    rw [evl_mul _ _ _ (isP_lin r) (isP_locL P) hy]
    rcases List.mem_cons.1 h with rfl | h
    · have e : evl [1, gpow 2 q] (ginv (gpow 2 q)) = 0 := by
        show 1 ^^^ gmul (ginv (gpow 2 q)) (gpow 2 q ^^^ gmul (ginv (gpow 2 q)) 0) = 0
        rw [gmul_zero, Nat.xor_zero, gmul_comm _ _ hy (pow2_ok q).1, gmul_ginv _ (pow2_ok q).1 (pow2_ok q).2]
        rfl
      rw [e, zero_gmul _ (evl_lt (isP_locL P) _ hy)]
    · rw [ih h, gmul_zero]
theorem locL_fits {s P : List Nat} {N : Nat} (hs : IsP s) (hf : FlipSums s N P) : Fits s N P.length (norm (locL P)) := by
  refine ⟨isP_norm (isP_locL P), by rw [cf_norm, locL_one], fun i hi => by rw [cf_norm]; exact locL_high P i hi, fun i h1 h2 => ?_⟩
  rw [gap_flips hs hf (isP_norm (isP_locL P)) (Nat.le_trans (norm_len fun j hj => locL_high P j (by omega)) (Nat.succ_le_succ h1)) h2]
  apply xsum_zero
  intro q hq
  rw [evl_eqv _ (norm_eqv _), locL_root P q hq, gmul_zero]
/-- So many powers in a row, summed with weights, give 0: then the weights are 0. -/
theorem vander {P : List Nat} {e : Nat} (z : Nat → Nat) (hz : ∀ q, z q < 8192) (hnd : P.Nodup) (h8 : ∀ q ∈ P, q < 8191) (hl : P.length ≤ e)
    (h : ∀ i, i < e → xsum (fun q => gmul (gpow 2 (i * q)) (z q)) P = 0) (q : Nat) (hq : q ∈ P) : z q = 0 := by
  have key : ∀ R : List Nat, IsP R → R.length ≤ e → xsum (fun q => gmul (evl R (gpow 2 q)) (z q)) P = 0 := by
    intro R hR hRl
    have k2 : ∀ m, m ≤ R.length → xsum (fun q => gmul (evl (R.take m) (gpow 2 q)) (z q)) P = 0 := by
      intro m
      induction m with
      | zero => intro _; exact xsum_zero fun q _ => zero_gmul _ (hz q)
      | succ m ih =>
        intro hm
        have c1 := cf_lt hR m
        have e1 : xsum (fun q => gmul (evl (R.take (m + 1)) (gpow 2 q)) (z q)) P = xsum (fun q => gmul (evl (R.take m) (gpow 2 q)) (z q) ^^^ gmul (cf R m) (gmul (gpow 2 (m * q)) (z q))) P := by
          apply xsum_congr
          intro q _
          show gmul (evl (R.take (m + 1)) (gpow 2 q)) (z q) = _
          have l1 := pow2_ok (m * q)
          rw [take_snoc_nat R m (by omega), evl_snoc _ _ _ c1 (isP_take hR m) (pow2_ok q).1, List.length_take, Nat.min_eq_left (by omega), ← gpow_mul 2 q m (by decide), Nat.mul_comm q m,
            gmul_left _ _ _ (evl_lt (isP_take hR m) _ (pow2_ok q).1) (gmul_lt _ _ c1), gmul_assoc _ _ _ c1 l1.1 (hz q)]
        rw [e1, xsum_xor, xsum_mul, ih (by omega), h m (by omega), gmul_zero]
        rfl
    have := k2 R.length (Nat.le_refl _)
    rwa [List.take_length] at this
  obtain ⟨l1, l2, rfl⟩ := List.append_of_mem hq
  have hrs : IsP ((l1 ++ l2).map (gpow 2)) := by
    intro x hx
    obtain ⟨i, _, rfl⟩ := List.mem_map.1 hx
    exact (pow2_ok i).1
  have hR := isP_norm (isP_prodl hrs)
  have hk := key (norm (prodl ((l1 ++ l2).map (gpow 2)))) hR (by rw [prodl_len hrs]; simp at hl ⊢; omega)
  have hzero : ∀ i ∈ l1 ++ l2, gmul (evl (norm (prodl ((l1 ++ l2).map (gpow 2)))) (gpow 2 i)) (z i) = 0 := fun i hi => by
    rw [evl_eqv _ (norm_eqv _), (evl_prodl_zero hrs _ (pow2_ok i).1).2 (List.mem_map.2 ⟨i, hi, rfl⟩), zero_gmul _ (hz i)]
  rw [xsum_append] at hk
  have hx1 := xsum_zero (f := fun q => gmul (evl (norm (prodl ((l1 ++ l2).map (gpow 2)))) (gpow 2 q)) (z q)) (l := l1) fun i hi => hzero i (List.mem_append_left _ hi)
  have hx2 := xsum_zero (f := fun q => gmul (evl (norm (prodl ((l1 ++ l2).map (gpow 2)))) (gpow 2 q)) (z q)) (l := l2) fun i hi => hzero i (List.mem_append_right _ hi)
  rw [hx1, Nat.zero_xor] at hk
  have hk2 : gmul (evl (norm (prodl ((l1 ++ l2).map (gpow 2)))) (gpow 2 q)) (z q) ^^^ xsum (fun q => gmul (evl (norm (prodl ((l1 ++ l2).map (gpow 2)))) (gpow 2 q)) (z q)) l2 = 0 := hk
  rw [hx2, Nat.xor_zero] at hk2
  rcases Decidable.em (z q = 0) with hzq | hzq
  · exact hzq
  · exfalso
    refine gmul_ne_zero _ _ (evl_lt hR _ (pow2_ok q).1) (hz q) (fun e0 => ?_) hzq hk2
    rw [evl_eqv _ (norm_eqv _)] at e0
    obtain ⟨i, hi, e2⟩ := List.mem_map.1 ((evl_prodl_zero hrs _ (pow2_ok q).1).1 e0)
    have hmem : i ∈ l1 ++ q :: l2 := by
      rcases List.mem_append.1 hi with h1 | h1
      · exact List.mem_append_left _ h1
      · exact List.mem_append_right _ (List.mem_cons_of_mem _ h1)
    have := two_inj i q (h8 i hmem) (h8 q hq) e2
    subst this
    have hnd2 := hnd
    rw [List.nodup_append] at hnd2
    obtain ⟨_, n2, n3⟩ := hnd2
    rcases List.mem_append.1 hi with h1 | h1
    · exact n3 i h1 i (List.mem_cons_self) rfl
    · exact (List.nodup_cons.1 n2).1 h1
/-- Where the flips are: a locator's roots below n. -/
def rts (p : List Nat) (n : Nat) : List Nat := (List.range n).filter fun i => evl p (ginv (gpow 2 i)) == 0
theorem mem_rts {p : List Nat} {n i : Nat} : i ∈ rts p n ↔ i < n ∧ evl p (ginv (gpow 2 i)) = 0 := by simp [rts]
theorem nodup_rts (p : List Nat) (n : Nat) : (rts p n).Nodup := List.Pairwise.filter _ List.nodup_range
theorem ginv_inj {a b : Nat} (ha : a < 8192) (hb : b < 8192) (h0 : a ≠ 0) (h1 : b ≠ 0) (h : ginv a = ginv b) : a = b := by
  have e : gmul a (ginv b) = 1 := by rw [← h]; exact gmul_ginv a ha h0
  have e2 : gmul b (ginv b) = 1 := gmul_ginv b hb h1
  have hi := ginv_lt b hb
  rw [gmul_comm _ _ ha hi] at e
  rw [gmul_comm _ _ hb hi] at e2
  exact (ginv_unique _ a hi ha e).trans (ginv_unique _ b hi hb e2).symm
theorem nodup_invs {P : List Nat} (hnd : P.Nodup) (h8 : ∀ q ∈ P, q < 8191) : (P.map fun q => ginv (gpow 2 q)).Nodup := by
  rw [List.Nodup, List.pairwise_map]
  refine List.Pairwise.imp_of_mem ?_ hnd
  intro a b ha hb hne e
  exact hne (two_inj a b (h8 a ha) (h8 b hb) (ginv_inj (pow2_ok a).1 (pow2_ok b).1 (pow2_ok a).2 (pow2_ok b).2 e))
theorem rts_le {p : List Nat} {n : Nat} (hp : IsP p) (hn : norm p ≠ []) (h8 : n ≤ 8191) : (rts p n).length < (norm p).length := by
  have := roots_lt ((rts p n).map fun q => ginv (gpow 2 q)) p hp hn (nodup_invs (nodup_rts p n) fun q hq => by have := (mem_rts.1 hq).1; omega) fun r hr => by
    obtain ⟨q, hq, rfl⟩ := List.mem_map.1 hr
    exact ⟨ginv_lt _ (pow2_ok q).1, (mem_rts.1 hq).2⟩
  simpa using this
/-- **Few flips are found.** -/
theorem bm_finds {s P : List Nat} {t n : Nat} (hs : IsP s) (hnd : P.Nodup) (hn : n ≤ 8191) (h8 : ∀ q ∈ P, q < n) (ht : P.length ≤ t) (hf : FlipSums s (2 * t) P) :
    (bmTo s (2 * t)).now.length = P.length + 1 ∧ ∀ i, i < n → (evl (bmTo s (2 * t)).now (ginv (gpow 2 i)) = 0 ↔ i ∈ P) := by
  have hok := bm_ok hs (2 * t)
  have hle := bm_least hs (locL_fits hs hf) (2 * t) (Nat.le_refl _)
  have hln := hok.ln
  have h8' : ∀ q ∈ P, q < 8191 := fun q hq => by have := h8 q hq; omega
  have hroot : ∀ q ∈ P, evl (bmTo s (2 * t)).now (ginv (gpow 2 q)) = 0 := by
    intro q hq
    have hv := vander (P := P) (e := P.length) (fun q => gmul (gpow 2 (((bmTo s (2 * t)).len + 1) * q)) (evl (bmTo s (2 * t)).now (ginv (gpow 2 q)))) (fun q => gmul_lt _ _ (pow2_ok _).1) hnd h8' (Nat.le_refl _)
      (fun i hi => by
        have hgap := gap_flips (i := (bmTo s (2 * t)).len + i) hs hf hok.pn (by omega) (by omega)
        rw [hok.fit _ (by omega) (by omega)] at hgap
        rw [hgap]
        apply xsum_congr
        intro q _
        have l := evl_lt hok.pn _ (ginv_lt _ (pow2_ok q).1)
        show gmul (gpow 2 (i * q)) (gmul (gpow 2 (((bmTo s (2 * t)).len + 1) * q)) _) = gmul (gpow 2 (((bmTo s (2 * t)).len + i + 1) * q)) _
        rw [← gmul_assoc _ _ _ (pow2_ok _).1 (pow2_ok _).1 l, ← gpow_add 2 _ _ (by decide), ← Nat.add_mul, show i + ((bmTo s (2 * t)).len + 1) = (bmTo s (2 * t)).len + i + 1 from by omega]) q hq
    rcases Decidable.em (evl (bmTo s (2 * t)).now (ginv (gpow 2 q)) = 0) with h | h
    · exact h
    · exact absurd hv (gmul_ne_zero _ _ (pow2_ok _).1 (evl_lt hok.pn _ (ginv_lt _ (pow2_ok q).1)) (pow2_ok _).2 h)
  have hne : norm (bmTo s (2 * t)).now ≠ [] := by
    intro e
    have := (norm_nil_iff _).1 e 0
    rw [hok.one] at this
    exact absurd this (by decide)
  have hmany := roots_lt (P.map fun q => ginv (gpow 2 q)) _ hok.pn hne (nodup_invs hnd h8') fun r hr => by
    obtain ⟨q, hq, rfl⟩ := List.mem_map.1 hr
    exact ⟨ginv_lt _ (pow2_ok q).1, hroot q hq⟩
  rw [hok.nn, List.length_map] at hmany
  refine ⟨by omega, fun i hi => ⟨fun h => ?_, hroot i⟩⟩
  rcases Decidable.em (i ∈ P) with h1 | h1
  · exact h1
  · exfalso
    have := roots_lt ((i :: P).map fun q => ginv (gpow 2 q)) _ hok.pn hne (nodup_invs (List.nodup_cons.2 ⟨h1, hnd⟩) fun q hq => by
        rcases List.mem_cons.1 hq with rfl | hq
        · omega
        · exact h8' q hq) fun r hr => by
      obtain ⟨q, hq, rfl⟩ := List.mem_map.1 hr
      refine ⟨ginv_lt _ (pow2_ok q).1, ?_⟩
      rcases List.mem_cons.1 hq with rfl | hq
      · exact h
      · exact hroot q hq
    rw [hok.nn, List.length_map, List.length_cons] at this
    omega

end Go.Proofs.Ytjiaomkjebbkpab
