/-
  The plain mathematics of polynomials over two elements (lists of coefficients 0 and 1 within those over the field), of bytes that stand for them, and of the least polynomials of the field's elements. No program text is imported here.
-/
import Derived.Test.YtgamakejaknagaaGreatPackB
import Derived.Test.YtgamakejaknagaaGreatPackA
import Derived.Test.YtgamakejaknagaaGreatPackD
import Derived.WalkMore
namespace Go.Proofs.YtgamakejaknagaaGreat
set_option linter.unusedVariables false
set_option maxRecDepth 8192

/-- Coefficients 0 and 1 alone. -/
def Is01 (p : List Nat) : Prop := ∀ x ∈ p, x < 2
theorem Is01.isP {p : List Nat} (h : Is01 p) : IsP p := fun x hx => by have := h x hx; omega
theorem Is01.cf {p : List Nat} (h : Is01 p) (i : Nat) : cf p i < 2 := by
  unfold Go.Proofs.YtgamakejaknagaaGreat.cf
  by_cases hi : i < p.length
  · rw [List.getElem?_eq_getElem hi]; exact h _ (List.getElem_mem hi)
  · rw [List.getElem?_eq_none (by omega)]; decide
theorem is01_of {p : List Nat} (h : ∀ i, cf p i < 2) : Is01 p := by
  intro x hx
  obtain ⟨i, hi, rfl⟩ := List.mem_iff_getElem.1 hx
  have := h i
  unfold cf at this
  rwa [List.getElem?_eq_getElem hi] at this
theorem is01_all (z : List Nat) (h : z.all (fun n => decide (n < 2)) = true) : Is01 z := by
  intro n hn
  have := List.all_eq_true.1 h n hn
  simpa using this
theorem is01_norm {p : List Nat} (h : Is01 p) : Is01 (norm p) := is01_of fun i => by rw [cf_norm]; exact h.cf i
theorem xor_01 {a b : Nat} (ha : a < 2) (hb : b < 2) : a ^^^ b = (a + b) % 2 := by
  have : ∀ a b : Fin 2, a.val ^^^ b.val = (a.val + b.val) % 2 := by decide
  exact this ⟨a, ha⟩ ⟨b, hb⟩
theorem gmul_01 {a b : Nat} (ha : a < 2) (hb : b < 2) : gmul a b = a * b := by
  have : ∀ a b : Fin 2, gmul a.val b.val = a.val * b.val := by decide +kernel
  exact this ⟨a, ha⟩ ⟨b, hb⟩
theorem is01_addL {p q : List Nat} (hp : Is01 p) (hq : Is01 q) : Is01 (addL p q) := is01_of fun i => by
  rw [cf_addL, xor_01 (hp.cf i) (hq.cf i)]; omega
theorem is01_smul {x : Nat} {q : List Nat} (hx : x < 2) (hq : Is01 q) : Is01 (smul x q) := is01_of fun i => by
  rw [cf_smul, gmul_01 hx (hq.cf i)]
  have := hq.cf i
  rcases (show x = 0 ∨ x = 1 by omega) with rfl | rfl <;> omega
theorem is01_cons {x : Nat} {p : List Nat} (h : Is01 (x :: p)) : x < 2 ∧ Is01 p := ⟨h _ (List.mem_cons_self), fun a ha => h a (List.mem_cons_of_mem _ ha)⟩
theorem is01_zero_cons {p : List Nat} (h : Is01 p) : Is01 (0 :: p) := by
  intro z hz
  rcases List.mem_cons.1 hz with rfl | hz
  · decide
  · exact h z hz
theorem is01_mulL {p q : List Nat} (hp : Is01 p) (hq : Is01 q) : Is01 (mulL p q) := by
  induction p with
  | nil => exact hp
  | cons x p ih => exact is01_addL (is01_smul (is01_cons hp).1 hq) (is01_zero_cons (ih (is01_cons hp).2))

/-- The bits of bytes. -/
def bts (z : List Int) : List Nat := (List.range (8 * z.length)).map fun i => (bitI z i).toNat
theorem length_bts (z : List Int) : (bts z).length = 8 * z.length := by simp [bts]
theorem bitI_past (z : List Int) (i : Nat) (h : 8 * z.length ≤ i) : bitI z i = 0 := by
  unfold bitI
  rw [List.getElem?_eq_none (by omega)]
  show bitAt 0 _ = 0
  unfold bitAt
  simp
theorem cf_bts (z : List Int) (i : Nat) : cf (bts z) i = (bitI z i).toNat := by
  by_cases h : i < 8 * z.length
  · simp [cf, bts, h]
  · rw [cf_big _ _ (by rw [length_bts]; omega), bitI_past z i (by omega)]; rfl
theorem cf_bts_int (z : List Int) (i : Nat) : (cf (bts z) i : Int) = bitI z i := by
  rw [cf_bts]
  rcases bitI_01 z i with h | h <;> rw [h] <;> rfl
theorem is01_bts (z : List Int) : Is01 (bts z) := is01_of fun i => by
  rw [cf_bts]
  rcases bitI_01 z i with h | h <;> rw [h] <;> decide

/-- Bytes of bits. -/
def byteOf (l : List Nat) (j : Nat) : Nat := cf l (8 * j) + 2 * cf l (8 * j + 1) + 4 * cf l (8 * j + 2) + 8 * cf l (8 * j + 3) + 16 * cf l (8 * j + 4) + 32 * cf l (8 * j + 5) + 64 * cf l (8 * j + 6) + 128 * cf l (8 * j + 7)
def pk (l : List Nat) : List Int := (List.range ((l.length + 7) / 8)).map fun j => (byteOf l j : Int)
theorem length_pk (l : List Nat) : (pk l).length = (l.length + 7) / 8 := by simp [pk]
theorem byteOf_lt {l : List Nat} (h : Is01 l) (j : Nat) : byteOf l j < 256 := by
  have h0 := h.cf (8 * j); have h1 := h.cf (8 * j + 1); have h2 := h.cf (8 * j + 2); have h3 := h.cf (8 * j + 3)
  have h4 := h.cf (8 * j + 4); have h5 := h.cf (8 * j + 5); have h6 := h.cf (8 * j + 6); have h7 := h.cf (8 * j + 7)
  unfold byteOf
  omega
theorem isB_pk {l : List Nat} (h : Is01 l) : IsB (pk l) := by
  intro n hn
  obtain ⟨j, _, rfl⟩ := List.mem_map.1 hn
  have := byteOf_lt h j
  omega
theorem pk_at (l : List Nat) (j : Nat) : (pk l)[j]?.getD 0 = (byteOf l j : Int) := by
  by_cases h : j < (l.length + 7) / 8
  · simp [pk, h]
  · rw [List.getElem?_eq_none (by rw [length_pk]; omega)]
    have e : ∀ k, cf l (8 * j + k) = 0 := fun k => cf_big _ _ (by omega)
    unfold byteOf
    have e0 : cf l (8 * j) = 0 := e 0
    rw [e0, e 1, e 2, e 3, e 4, e 5, e 6, e 7]
    rfl
theorem bitAt_byteOf {l : List Nat} (h : Is01 l) (j k : Nat) (hk : k < 8) : bitAt (byteOf l j : Int) k = cf l (8 * j + k) := by
  have h0 := h.cf (8 * j); have h1 := h.cf (8 * j + 1); have h2 := h.cf (8 * j + 2); have h3 := h.cf (8 * j + 3)
  have h4 := h.cf (8 * j + 4); have h5 := h.cf (8 * j + 5); have h6 := h.cf (8 * j + 6); have h7 := h.cf (8 * j + 7)
  unfold bitAt byteOf
  rcases (show k = 0 ∨ k = 1 ∨ k = 2 ∨ k = 3 ∨ k = 4 ∨ k = 5 ∨ k = 6 ∨ k = 7 by omega) with rfl | rfl | rfl | rfl | rfl | rfl | rfl | rfl
  all_goals
    try simp only [Nat.add_zero]
    omega
theorem bitI_pk {l : List Nat} (h : Is01 l) (i : Nat) : bitI (pk l) i = cf l i := by
  unfold bitI
  rw [pk_at, bitAt_byteOf h _ _ (by omega), show 8 * (i / 8) + i % 8 = i from by omega]
theorem bts_pk {l : List Nat} (h : Is01 l) : Eqv (bts (pk l)) l := fun i => by rw [cf_bts, bitI_pk h]; rfl
/-- Normal bytes. -/
def nb (l : List Nat) : List Int := pk (norm l)
theorem isB_nb {l : List Nat} (h : Is01 l) : IsB (nb l) := isB_pk (is01_norm h)
theorem bts_nb {l : List Nat} (h : Is01 l) : Eqv (bts (nb l)) l := (bts_pk (is01_norm h)).trans (norm_eqv l)
theorem nb_ext {l l' : List Nat} (h : Eqv l l') : nb l = nb l' := by unfold nb; rw [norm_ext h]
theorem norm_bts_nb {l : List Nat} (h : Is01 l) : norm (bts (nb l)) = norm l := norm_ext (bts_nb h)
theorem length_nb (l : List Nat) : (nb l).length = ((norm l).length + 7) / 8 := length_pk _
/-- r is the rest of p by q, polynomials over two elements. -/
structure IsMod (p q r : List Nat) : Prop where
  hr : Is01 r
  back : ∃ a, Is01 a ∧ Eqv (addL (mulL q a) r) p
  short : (norm r).length < (norm q).length
theorem IsMod.eqv {p p' q q' r r' : List Nat} (h : IsMod p q r) (hp : Eqv p p') (hq : Eqv q q') (h1 : Is01 q) (h2 : Is01 q') (hr : Eqv r r') (hr' : Is01 r') : IsMod p' q' r' := by
  obtain ⟨a, ha, e⟩ := h.back
  refine ⟨hr', ⟨a, ha, ?_⟩, ?_⟩
  · exact (eqv_addL (mulL_left a h2.isP h1.isP ha.isP hq.symm) hr.symm).trans (e.trans hp)
  · rw [← norm_ext hr, ← norm_ext hq]; exact h.short
theorem IsMod.add {p q r u v : List Nat} (h : IsMod p r u) (k : IsMod q r v) : IsMod (addL p q) r (addL u v) := by
  obtain ⟨a, ha, e⟩ := h.back
  obtain ⟨b, hb, f⟩ := k.back
  refine ⟨is01_addL h.hr k.hr, ⟨addL a b, is01_addL ha hb, ?_⟩, ?_⟩
  · exact (eqv_addL (mulL_add_right r a b) (Eqv.refl _)).trans ((addL_mid _ _ _ _).trans (eqv_addL e f))
  · have hs := h.short
    have ks := k.short
    have : (norm (addL u v)).length ≤ (norm r).length - 1 := norm_len_le _ _ fun i hi => by
      rw [cf_addL, norm_above u i (by omega), norm_above v i (by omega)]; rfl
    omega
/-! Roots. -/
theorem isP_lin1 {r : Nat} (hr : r < 8192) : IsP [r, 1] := by
  intro x hx
  simp at hx
  rcases hx with rfl | rfl
  · exact hr
  · decide
theorem norm_lin1 (r : Nat) : norm [r, 1] = [r, 1] := norm_of_last _ (.inr (by show (1 : Nat) ≠ 0; decide))
theorem evl_lin1 (r x : Nat) (hx : x < 8192) : evl [r, 1] x = r ^^^ x := by
  show r ^^^ gmul x (1 ^^^ gmul x 0) = _
  rw [gmul_zero, Nat.xor_zero, gmul_one x hx]
/-- The quotient by x less r. -/
def sdiv (r : Nat) : List Nat → List Nat
  | [] => []
  | _ :: p => evl p r :: sdiv r p
theorem isP_sdiv {r : Nat} {p : List Nat} (hr : r < 8192) (hp : IsP p) : IsP (sdiv r p) := by
  induction p with
  | nil => exact hp
  | cons c p ih =>
    intro x hx
    rcases List.mem_cons.1 hx with rfl | hx
    · exact evl_lt (isP_cons hp).2 r hr
    · exact ih (isP_cons hp).2 x hx
theorem cf_lin_mul (r : Nat) (s : List Nat) (i : Nat) (hs : IsP s) : cf (mulL [r, 1] s) i = gmul r (cf s i) ^^^ cf (0 :: s) i := by
  show cf (addL (smul r s) (0 :: addL (smul 1 s) [0])) i = _
  rw [cf_addL, cf_smul]
  congr 1
  cases i with
  | zero => rfl
  | succ i =>
    rw [cf_succ, cf_succ, cf_addL, cf_smul, one_gmul _ (cf_lt hs i)]
    cases i with
    | zero => rw [cf_zero, Nat.xor_zero]
    | succ i => rw [cf_succ 0, cf_nil, Nat.xor_zero]
theorem sdiv_back {r : Nat} {p : List Nat} (hr : r < 8192) (hp : IsP p) : Eqv (addL (mulL [r, 1] (sdiv r p)) [evl p r]) p := by
  induction p with
  | nil =>
    intro i
    rw [cf_addL, cf_lin_mul r _ i (fun x hx => absurd hx (by simp [sdiv]))]
    show gmul r 0 ^^^ cf [0] i ^^^ cf [0] i = 0
    rw [gmul_zero, Nat.zero_xor, Nat.xor_self]
  | cons c p ih =>
    obtain ⟨hc, hp'⟩ := isP_cons hp
    have hv := evl_lt hp' r hr
    have hs := isP_sdiv hr hp'
    have ih := ih hp'
    have hs2 := isP_sdiv hr hp
    intro i
    rw [cf_addL, cf_lin_mul r _ i hs2]
    show gmul r (cf (evl p r :: sdiv r p) i) ^^^ cf (0 :: evl p r :: sdiv r p) i ^^^ cf [c ^^^ gmul r (evl p r)] i = _
    cases i with
    | zero =>
      rw [cf_zero, cf_zero, cf_zero, cf_zero, Nat.xor_zero]
      generalize gmul r (evl p r) = g
      rw [Nat.xor_comm c g, ← Nat.xor_assoc, Nat.xor_self, Nat.zero_xor]
    | succ i =>
      rw [cf_succ, cf_succ, cf_succ, cf_succ, cf_nil, Nat.xor_zero]
      have := ih i
      rw [cf_addL, cf_lin_mul r _ i hs] at this
      rw [← this, Nat.xor_assoc]
      congr 1
      cases i with
      | zero => rw [cf_zero, cf_zero, cf_zero, Nat.zero_xor]
      | succ i => rw [cf_succ, cf_succ, cf_succ, cf_nil, Nat.xor_zero]
/-- A polynomial that is not 0 has fewer roots than coefficients. -/
theorem roots_lt (rs : List Nat) : ∀ (p : List Nat), IsP p → norm p ≠ [] → rs.Nodup → (∀ r ∈ rs, r < 8192 ∧ evl p r = 0) → rs.length < (norm p).length := by
  induction rs with
  | nil => intro p _ hn _ _; exact List.length_pos_iff.2 hn
  | cons r rs ih =>
    intro p hp hn hnd hroot
    obtain ⟨hr, hv⟩ := hroot r (List.mem_cons_self)
    have hback := sdiv_back hr hp
    rw [hv] at hback
    have hs := isP_sdiv hr hp
    have hb : Eqv (mulL [r, 1] (sdiv r p)) p := fun i => by
      have := hback i
      rw [cf_addL] at this
      rw [← this]
      cases i with
      | zero => rw [cf_zero, Nat.xor_zero]
      | succ i => rw [cf_succ 0, cf_nil, Nat.xor_zero]
    have hsn : norm (sdiv r p) ≠ [] := by
      intro e
      apply hn
      rw [← norm_ext hb]
      have e2 : Eqv (sdiv r p) [] := fun i => (norm_nil_iff _).1 e i
      rw [norm_ext ((mulL_right [r, 1] e2).trans (mulL_nil _))]
      rfl
    have hlen := mulL_length [r, 1] (sdiv r p) (isP_lin1 hr) hs (by rw [norm_lin1]; simp) hsn
    rw [norm_ext hb, norm_lin1] at hlen
    obtain ⟨hnr, hnd'⟩ := List.nodup_cons.1 hnd
    have := ih (sdiv r p) hs hsn hnd' fun r' hr' => by
      obtain ⟨hlt', hv'⟩ := hroot r' (List.mem_cons_of_mem _ hr')
      refine ⟨hlt', ?_⟩
      rw [← evl_eqv r' hb, evl_mul _ _ r' (isP_lin1 hr) hs hlt', evl_lin1 r r' hlt'] at hv'
      rcases Decidable.em (evl (sdiv r p) r' = 0) with h0 | h0
      · exact h0
      · exfalso
        refine gmul_ne_zero _ _ (xor_lt r r' hr hlt') (evl_lt hs r' hlt') (fun e => ?_) h0 hv'
        have := xor_zero_eq e
        subst this
        exact hnr hr'
    simp at hlen ⊢
    omega

/-! Conjugates. -/
theorem evl_sq {p : List Nat} (h : Is01 p) (x : Nat) (hx : x < 8192) : evl p (gmul x x) = gmul (evl p x) (evl p x) := by
  induction p with
  | nil => show 0 = gmul 0 0; rw [gmul_zero]
  | cons c p ih =>
    obtain ⟨hc, hp⟩ := is01_cons h
    have he := evl_lt hp.isP x hx
    show c ^^^ gmul (gmul x x) (evl p (gmul x x)) = gmul (c ^^^ gmul x (evl p x)) (c ^^^ gmul x (evl p x))
    rw [ih hp, gsq_xor _ _ (by omega) (gmul_lt x _ hx), gmul_01 hc hc, show c * c = c from by rcases (show c = 0 ∨ c = 1 by omega) with rfl | rfl <;> rfl]
    congr 1
    generalize evl p x = e at *
    rw [gmul_assoc x x _ hx hx (gmul_lt e e he), gmul_assoc x e _ hx he (gmul_lt x e hx), ← gmul_assoc e x e he hx he, gmul_comm e x he hx, gmul_assoc x e e hx he he]
theorem evl_sqN {p : List Nat} (h : Is01 p) (x : Nat) (hx : x < 8192) (h0 : evl p x = 0) (k : Nat) : evl p (sqN x k) = 0 := by
  induction k with
  | zero => exact h0
  | succ k ih =>
    show evl p (gmul (sqN x k) (sqN x k)) = 0
    rw [evl_sq h _ (sqN_lt x k hx), ih, gmul_zero]
theorem gpow_eq_one {x n : Nat} (hx : x < 8192) (h0 : x ≠ 0) (hn : n ≠ 0) (hn' : n < 8191) (h : gpow x n = 1) : x = 1 := by
  have hg := fin_of (P := fun r => r ≠ 0 → r < 8191 → Nat.gcd r 8191 = 1) gcd_fin n (by omega) hn hn'
  have := gpow_gcd x hx n 8191 h (gpow_8191 x hx h0)
  rwa [hg, gpow_one x hx] at this
theorem sqN_ne {x i j : Nat} (hx : x < 8192) (h0 : x ≠ 0) (h1 : x ≠ 1) (hij : i < j) (hj : j < 13) : sqN x i ≠ sqN x j := by
  intro h
  rw [sqN_gpow x i hx, sqN_gpow x j hx] at h
  have hlt : 2 ^ i < 2 ^ j := Nat.pow_lt_pow_right (by decide) hij
  have hle : 2 ^ j ≤ 2 ^ 12 := Nat.pow_le_pow_right (by decide) (by omega)
  have hpos : 0 < 2 ^ i := Nat.two_pow_pos i
  have e12 : (2 : Nat) ^ 12 = 4096 := by decide
  have e : gpow x (2 ^ j) = gmul (gpow x (2 ^ i)) (gpow x (2 ^ j - 2 ^ i)) := by rw [← gpow_add x _ _ hx, show 2 ^ i + (2 ^ j - 2 ^ i) = 2 ^ j from by omega]
  have hl := gpow_lt x (2 ^ i) hx
  have hn := gpow_ne_zero x (2 ^ i) hx h0
  rw [← h] at e
  have h1' : gmul (ginv (gpow x (2 ^ i))) (gpow x (2 ^ i)) = 1 := by
    rw [gmul_comm _ _ (ginv_lt _ hl) hl]; exact gmul_ginv _ hl hn
  have e2 := congrArg (gmul (ginv (gpow x (2 ^ i)))) e
  rw [← gmul_assoc _ _ _ (ginv_lt _ hl) hl (gpow_lt x _ hx), h1', one_gmul _ (gpow_lt x _ hx)] at e2
  exact h1 (gpow_eq_one hx h0 (by omega) (by omega) e2.symm)
/-- No polynomial of a lower degree than 13, but 0, has the value 0 at an element that is neither 0 nor 1. -/
theorem least {p : List Nat} {x : Nat} (hp : Is01 p) (hn : norm p ≠ []) (hx : x < 8192) (h0 : x ≠ 0) (h1 : x ≠ 1) (hv : evl p x = 0) : 13 < (norm p).length := by
  have hnd : ((List.range 13).map (sqN x)).Nodup := by
    rw [List.Nodup, List.pairwise_map]
    refine List.Pairwise.imp_of_mem ?_ (List.pairwise_lt_range (n := 13))
    intro i j _ hj hlt he
    exact sqN_ne hx h0 h1 hlt (List.mem_range.1 hj) he
  have := roots_lt _ p hp.isP hn hnd fun r hr => by
    obtain ⟨k, _, rfl⟩ := List.mem_map.1 hr
    exact ⟨sqN_lt x k hx, evl_sqN hp x hx hv k⟩
  simpa using this

/-! The least polynomial. -/
/-- The first k digits of n. -/
def nbits (n k : Nat) : List Nat := (List.range k).map fun i => n / 2 ^ i % 2
theorem cf_nbits (n k i : Nat) (h : i < k) : cf (nbits n k) i = n / 2 ^ i % 2 := by simp [cf, nbits, h]
theorem length_nbits (n k : Nat) : (nbits n k).length = k := by simp [nbits]
theorem is01_nbits (n k : Nat) : Is01 (nbits n k) := by
  intro x hx
  obtain ⟨i, _, rfl⟩ := List.mem_map.1 hx
  omega
theorem nbits_inj (n m k : Nat) (hn : n < 2 ^ k) (hm : m < 2 ^ k) (h : ∀ i, cf (nbits n k) i = cf (nbits m k) i) : n = m := by
  apply Nat.eq_of_testBit_eq
  intro i
  by_cases hi : i < k
  · have := h i
    rw [cf_nbits _ _ _ hi, cf_nbits _ _ _ hi] at this
    simp only [Nat.testBit_eq_decide_div_mod_eq, this]
  · have hk : 2 ^ k ≤ 2 ^ i := Nat.pow_le_pow_right (by decide) (by omega)
    rw [Nat.testBit_lt_two_pow (by omega), Nat.testBit_lt_two_pow (by omega)]
theorem dependent (x : Nat) (hx : x < 8192) : ∃ p, Is01 p ∧ p.length ≤ 14 ∧ norm p ≠ [] ∧ evl p x = 0 := by
  have hnot : ¬ ∀ i j, i < 16384 → j < 16384 → evl (nbits i 14) x = evl (nbits j 14) x → i = j := by
    intro hinj
    have hnd : ((List.range 16384).map fun n => evl (nbits n 14) x).Nodup := by
      rw [List.Nodup, List.pairwise_map]
      refine List.Pairwise.imp_of_mem ?_ (List.nodup_range (n := 16384))
      intro i j hi hj hne he
      exact hne (hinj i j (List.mem_range.1 hi) (List.mem_range.1 hj) he)
    have := nodup_le 8192 _ hnd fun v hv => by
      obtain ⟨n, _, rfl⟩ := List.mem_map.1 hv
      exact evl_lt (is01_nbits n 14).isP x hx
    simp at this
  rcases Classical.em (∃ p, Is01 p ∧ p.length ≤ 14 ∧ norm p ≠ [] ∧ evl p x = 0) with h | h
  · exact h
  · exfalso
    apply hnot
    intro i j hi hj he
    rcases Decidable.em (i = j) with e | e
    · exact e
    · exfalso
      apply h
      refine ⟨addL (nbits i 14) (nbits j 14), is01_addL (is01_nbits _ _) (is01_nbits _ _), ?_, ?_, ?_⟩
      · have : ∀ p q : List Nat, p.length = q.length → (addL p q).length = p.length := by
          intro p
          induction p with
          | nil => intro q h; cases q with
            | nil => rfl
            | cons y q => simp at h
          | cons a p ih => intro q h; cases q with
            | nil => simp at h
            | cons y q => show (addL p q).length + 1 = _; rw [ih q (by simpa using h)]; rfl
        rw [this _ _ (by rw [length_nbits, length_nbits]), length_nbits]
        exact Nat.le_refl _
      · intro hz
        apply e
        refine nbits_inj i j 14 hi hj fun k => ?_
        have := (norm_nil_iff _).1 hz k
        rw [cf_addL] at this
        exact xor_zero_eq this
      · rw [evl_add, he, Nat.xor_self]
/-- m is the least polynomial of x. -/
structure IsMin (x : Nat) (m : List Nat) : Prop where
  h01 : Is01 m
  nm : norm m = m
  len : m.length = if x = 1 then 2 else 14
  val : evl m x = 0
theorem min_exists (x : Nat) (hx : x < 8192) (h0 : x ≠ 0) (h1 : x ≠ 1) : ∃ p, IsMin x p := by
  obtain ⟨p, hp, hl, hn, hv⟩ := dependent x hx
  refine ⟨norm p, is01_norm hp, norm_norm p, ?_, by rw [evl_eqv x (norm_eqv p)]; exact hv⟩
  have := least hp hn hx h0 h1 hv
  have := norm_length_le p
  rw [if_neg h1]
  omega
theorem is01_last {m : List Nat} {n : Nat} (h : Is01 m) (hn : norm m = m) (hl : m.length = n + 1) : cf m n = 1 := by
  have h1 := norm_last m (by rw [hn]; intro e; rw [e] at hl; simp at hl)
  rw [hn, hl, show n + 1 - 1 = n from rfl] at h1
  have := h.cf n
  omega
/-- The least polynomial of an element (but 0), found. -/
def minp (x : Nat) : List Nat := if x ≤ 1 then [1, 1] else (((List.range 16384).map fun n => nbits n 14).find? fun p => decide (norm p = p ∧ p.length = 14 ∧ evl p x = 0)).getD [1, 1]
theorem nbits_of {p : List Nat} {k : Nat} (h : Is01 p) (hl : p.length = k) : ∃ n, n < 2 ^ k ∧ nbits n k = p := by
  induction k generalizing p with
  | zero => exact ⟨0, by decide, by rw [List.length_eq_zero_iff.1 hl]; rfl⟩
  | succ k ih =>
    cases p with
    | nil => simp at hl
    | cons c p =>
      obtain ⟨hc, hp⟩ := is01_cons h
      obtain ⟨n, hn, e⟩ := ih hp (by simpa using hl)
      refine ⟨2 * n + c, by rw [Nat.pow_succ]; omega, ?_⟩
      rw [← e]
      unfold nbits
      rw [List.range_succ_eq_map, List.map_cons, List.map_map]
      congr 1
      · simp; omega
      · apply List.map_congr_left
        intro i _
        show (2 * n + c) / 2 ^ (i + 1) % 2 = n / 2 ^ i % 2
        rw [Nat.pow_succ, Nat.mul_comm (2 ^ i) 2, ← Nat.div_div_eq_div_mul, show (2 * n + c) / 2 = n from by omega]
theorem minp_is (x : Nat) (hx : x < 8192) (h0 : x ≠ 0) : IsMin x (minp x) := by
  by_cases h1 : x = 1
  · subst h1
    have e : minp 1 = [1, 1] := rfl
    rw [e]
    exact ⟨is01_all _ (by decide), by decide, rfl, by decide +kernel⟩
  · obtain ⟨p, hp⟩ := min_exists x hx h0 h1
    have hl := hp.len
    rw [if_neg h1] at hl
    obtain ⟨n, hn, e⟩ := nbits_of hp.h01 hl
    have hsome : ((((List.range 16384).map fun n => nbits n 14).find? fun p => decide (norm p = p ∧ p.length = 14 ∧ evl p x = 0))).isSome := by
      rw [List.find?_isSome]
      refine ⟨p, ?_, by simpa using ⟨hp.nm, hl, hp.val⟩⟩
      exact List.mem_map.2 ⟨n, List.mem_range.2 hn, e⟩
    obtain ⟨q, hq⟩ := Option.isSome_iff_exists.1 hsome
    have e2 : minp x = q := by unfold minp; rw [if_neg (by omega), hq]; rfl
    have hq1 := List.find?_some hq
    have hq2 := List.mem_of_find?_eq_some hq
    obtain ⟨m, _, rfl⟩ := List.mem_map.1 hq2
    have hq3 : norm (nbits m 14) = nbits m 14 ∧ (nbits m 14).length = 14 ∧ evl (nbits m 14) x = 0 := by simpa using hq1
    rw [e2]
    exact ⟨is01_nbits m 14, hq3.1, by rw [if_neg h1]; exact hq3.2.1, hq3.2.2⟩
/-! Generators. -/
def genTo : Nat → List Nat
  | 0 => [1]
  | k + 1 => norm (mulL (genTo k) (minp (gpow 2 (2 * k + 1))))
theorem pow2_ok (i : Nat) : gpow 2 i < 8192 ∧ gpow 2 i ≠ 0 := ⟨gpow_lt 2 i (by decide), gpow_ne_zero 2 i (by decide) (by decide)⟩
theorem is01_genTo (k : Nat) : Is01 (genTo k) := by
  induction k with
  | zero => exact is01_all _ (by decide)
  | succ k ih => exact is01_norm (is01_mulL ih (minp_is _ (pow2_ok _).1 (pow2_ok _).2).h01)
theorem norm_genTo (k : Nat) : norm (genTo k) = genTo k := by
  cases k with
  | zero => show norm [1] = [1]; decide
  | succ k => exact norm_norm _
theorem pow2_ne_one (i : Nat) (h0 : i ≠ 0) (hi : i < 8191) : gpow 2 i ≠ 1 := two_order i h0 hi
theorem length_genTo (k : Nat) (hk : k ≤ 8) : (genTo k).length = 13 * k + 1 := by
  induction k with
  | zero => rfl
  | succ k ih =>
    have ih := ih (by omega)
    have hm := minp_is (gpow 2 (2 * k + 1)) (pow2_ok _).1 (pow2_ok _).2
    have hl := hm.len
    rw [if_neg (pow2_ne_one _ (by omega) (by omega))] at hl
    have := mulL_length (genTo k) (minp (gpow 2 (2 * k + 1))) (is01_genTo k).isP hm.h01.isP (by rw [norm_genTo]; intro e; rw [e] at ih; simp at ih) (by rw [hm.nm]; intro e; rw [e] at hl; simp at hl)
    rw [norm_genTo, hm.nm, ih, hl] at this
    show (norm (mulL (genTo k) (minp (gpow 2 (2 * k + 1))))).length = _
    rw [this]
    omega
theorem evl_genTo (k y : Nat) (hy : y < 8192) : evl (genTo (k + 1)) y = gmul (evl (genTo k) y) (evl (minp (gpow 2 (2 * k + 1))) y) := by
  have hm := minp_is (gpow 2 (2 * k + 1)) (pow2_ok _).1 (pow2_ok _).2
  show evl (norm (mulL (genTo k) (minp (gpow 2 (2 * k + 1))))) y = _
  rw [evl_eqv y (norm_eqv _), evl_mul _ _ y (is01_genTo k).isP hm.h01.isP hy]
theorem evl_genTo_odd (t k : Nat) (h : k < t) : evl (genTo t) (gpow 2 (2 * k + 1)) = 0 := by
  induction t with
  | zero => omega
  | succ t ih =>
    have hy := (pow2_ok (2 * k + 1)).1
    rw [evl_genTo t _ hy]
    by_cases e : k = t
    · subst e
      rw [(minp_is (gpow 2 (2 * k + 1)) (pow2_ok _).1 (pow2_ok _).2).val, gmul_zero]
    · rw [ih (by omega), zero_gmul _ (evl_lt (minp_is (gpow 2 (2 * t + 1)) (pow2_ok _).1 (pow2_ok _).2).h01.isP _ hy)]
/-- The values at w's powers 1 to 2t are 0. -/
theorem evl_gen (t i : Nat) (h0 : 0 < i) (hi : i ≤ 2 * t) : evl (genTo t) (gpow 2 i) = 0 := by
  induction i using Nat.strongRecOn with
  | _ i ih =>
    by_cases hodd : i % 2 = 1
    · have := evl_genTo_odd t (i / 2) (by omega)
      rwa [show 2 * (i / 2) + 1 = i from by omega] at this
    · have h := ih (i / 2) (by omega) (by omega) (by omega)
      have e : gpow 2 i = gmul (gpow 2 (i / 2)) (gpow 2 (i / 2)) := by rw [← gpow_add 2 _ _ (by decide), show i / 2 + i / 2 = i from by omega]
      rw [e, evl_sq (is01_genTo t) _ (pow2_ok _).1, h, gmul_zero]

end Go.Proofs.YtgamakejaknagaaGreat

/-
  Layer 4's reference (casemateref04) and the reference's Put of any list of bits: Degree, Bytes, Add, Value give what the plain functions give; nothing old turns.
-/
namespace Go.Proofs.YtgamakejaknagaaGreat
open Go.RowKit
set_option linter.unusedVariables false
set_option maxRecDepth 8192

theorem length_addL (p q : List Nat) : (addL p q).length = max p.length q.length := by
  induction p generalizing q with
  | nil => show q.length = max 0 q.length; omega
  | cons x p ih =>
    cases q with
    | nil => show (x :: p).length = max (x :: p).length 0; omega
    | cons y q => show (addL p q).length + 1 = _; rw [ih]; simp only [List.length_cons]; omega
theorem xor_int {a b : Nat} (ha : a < 2) (hb : b < 2) : ((a ^^^ b : Nat) : Int) = ((a : Int) + (b : Int)) % 2 := by rw [xor_01 ha hb]; omega

theorem drop_cons (p : List Nat) (k : Nat) (h : k < p.length) : p.drop k = cf p k :: p.drop (k + 1) := by
  rw [List.drop_eq_getElem_cons h]
  unfold cf
  rw [List.getElem?_eq_getElem h]; rfl

end Go.Proofs.YtgamakejaknagaaGreat

/-
  Layer 4's reference, Mul and Mod: products and rests of lists of bits; nothing old turns.
-/
namespace Go.Proofs.YtgamakejaknagaaGreat
open Go.RowKit
set_option linter.unusedVariables false
set_option maxRecDepth 8192

theorem is01_take {p : List Nat} (h : Is01 p) (k : Nat) : Is01 (p.take k) := fun x hx => h x (List.mem_of_mem_take hx)
/-- What Mod holds behind k rounds of its inner loop, from the place s on. -/
def modTo (r q : List Nat) (s k : Nat) : List Nat := (List.range r.length).map fun j => if s ≤ j ∧ j < s + k then cf r j ^^^ cf q (j - s) else cf r j
theorem length_modTo (r q : List Nat) (s k : Nat) : (modTo r q s k).length = r.length := by simp [modTo]
theorem cf_modTo (r q : List Nat) (s k j : Nat) (h : j < r.length) : cf (modTo r q s k) j = if s ≤ j ∧ j < s + k then cf r j ^^^ cf q (j - s) else cf r j := by simp [cf, modTo, h]
theorem is01_modTo {r q : List Nat} (hr : Is01 r) (hq : Is01 q) (s k : Nat) : Is01 (modTo r q s k) := by
  intro x hx
  obtain ⟨j, _, rfl⟩ := List.mem_map.1 hx
  split
  · rw [xor_01 (hr.cf j) (hq.cf _)]; omega
  · exact hr.cf j
/-- The power s. -/
def xs (s : Nat) : List Nat := List.replicate s 0 ++ [1]
theorem is01_xs (s : Nat) : Is01 (xs s) := by
  intro x hx
  unfold xs at hx
  simp at hx
  omega
theorem cf_mul_xs (q : List Nat) (s j : Nat) (hq : IsP q) : cf (mulL q (xs s)) j = if s ≤ j then cf q (j - s) else 0 := by
  have hz : IsP (List.replicate s 0) := by intro x hx; simp at hx; omega
  rw [mulL_comm q (xs s) hq (is01_xs s).isP j]
  unfold xs
  rw [mulL_snoc (List.replicate s 0) q 1 hz hq (by decide) j, List.length_replicate]
  have hn : Eqv (List.replicate s 0) [] := fun i => by
    unfold cf
    by_cases hi : i < s
    · simp [hi]
    · rw [List.getElem?_eq_none (by simp; omega)]; rfl
  rw [mulL_left q hz (by intro x hx; simp at hx) hq hn j]
  show 0 ^^^ _ = _
  rw [Nat.zero_xor]
  split
  · exact one_gmul _ (cf_lt hq _)
  · rfl
theorem modTo_end (r q : List Nat) (n d : Nat) (hr : Is01 r) (hq : Is01 q) (hn : (norm r).length = n + 1) (hd : (norm q).length = d + 1) (h : d ≤ n) :
    Eqv (modTo r q (n - d) (d + 1)) (addL r (mulL q (xs (n - d)))) ∧ (norm (modTo r q (n - d) (d + 1))).length ≤ n := by
  have hle := norm_length_le r
  have key : ∀ j, cf (modTo r q (n - d) (d + 1)) j = cf r j ^^^ (if n - d ≤ j then cf q (j - (n - d)) else 0) := fun j => by
    by_cases hj : j < r.length
    · rw [cf_modTo r q _ _ j hj]
      by_cases h1 : n - d ≤ j
      · rw [if_pos h1]
        by_cases h2 : j < n - d + (d + 1)
        · rw [if_pos ⟨h1, h2⟩]
        · rw [if_neg (by omega), norm_above q _ (by omega), Nat.xor_zero]
      · rw [if_neg (by omega), if_neg h1, Nat.xor_zero]
    · rw [cf_big _ _ (by rw [length_modTo]; omega), cf_big r j (by omega), Nat.zero_xor, if_pos (by omega), norm_above q _ (by omega)]
  refine ⟨fun j => by rw [key j, cf_addL, cf_mul_xs q _ j hq.isP], norm_len_le _ _ fun j hj => ?_⟩
  rw [key j, if_pos (by omega)]
  have l1 := norm_last r (by intro e; rw [e] at hn; simp at hn)
  have l2 := norm_last q (by intro e; rw [e] at hd; simp at hd)
  rw [cf_norm, hn, show n + 1 - 1 = n from rfl] at l1
  rw [cf_norm, hd, show d + 1 - 1 = d from rfl] at l2
  have b1 := hr.cf n
  have b2 := hq.cf d
  by_cases e : j = n
  · subst e
    rw [show j - (j - d) = d from by omega, show cf r j = 1 from by omega, show cf q d = 1 from by omega]
    rfl
  · rw [norm_above r j (by omega), norm_above q _ (by omega)]; rfl
end Go.Proofs.YtgamakejaknagaaGreat

/-
  What the code of layer 4 (bpoly) must return, function by function (the face that the laws' walks lean on), and awake and small of the laws.
-/
namespace Go.Proofs.YtgamakejaknagaaGreat
open Go.RowKit
set_option linter.unusedVariables false
set_option maxRecDepth 8192

/-- A call hands back the bytes z. -/
def Gives (w : World) (z : List Int) (e : Ending) (w' : World) : Prop :=
  ∃ a cap, e = .returned (.slice a z.length cap) ∧ Row .u8 w' a z.length cap z ∧ Below w.heap.size w w'
/-- A call hands back the bytes z and the error number n. -/
def GivesE (w : World) (z : List Int) (n : Int) (e : Ending) (w' : World) : Prop :=
  ∃ a cap, e = .returned (.tuple #[.slice a z.length cap, .int .i64 n]) ∧ Row .u8 w' a z.length cap z ∧ Below w.heap.size w w'

def BAddC : Prop := ∀ (a c : Option Addr) (len cap len' cap' : Nat) (x y : List Int) (w : World), Row .u8 w a len cap x → Row .u8 w c len' cap' y → IsB x → IsB y → len ≤ 500 → len' ≤ 500 →
  Calls Tryz.prog 168 #[.slice a len cap, .slice c len' cap'] w (Gives w (nb (addL (bts x) (bts y))))
def BMulC : Prop := ∀ (a c : Option Addr) (len cap len' cap' : Nat) (x y : List Int) (w : World), Row .u8 w a len cap x → Row .u8 w c len' cap' y → IsB x → IsB y → len ≤ 500 → len' ≤ 500 →
  Calls Tryz.prog 166 #[.slice a len cap, .slice c len' cap'] w (Gives w (nb (mulL (bts x) (bts y))))
structure BModC : Prop where
  zero : ∀ (a c : Option Addr) (len cap len' cap' : Nat) (x y : List Int) (w : World), Row .u8 w a len cap x → Row .u8 w c len' cap' y → IsB x → IsB y → len ≤ 500 → len' ≤ 500 → norm (bts y) = [] →
    Calls Tryz.prog 165 #[.slice a len cap, .slice c len' cap'] w (GivesE w [] 20)
  yes : ∀ (a c : Option Addr) (len cap len' cap' : Nat) (x y : List Int) (w : World), Row .u8 w a len cap x → Row .u8 w c len' cap' y → IsB x → IsB y → len ≤ 500 → len' ≤ 500 → norm (bts y) ≠ [] →
    Calls Tryz.prog 165 #[.slice a len cap, .slice c len' cap'] w fun e w' => ∃ r, IsMod (bts x) (bts y) r ∧ GivesE w (nb r) 0 e w'
def BMinC : Prop := ∀ (n : Int) (w : World), -9223372036854775808 ≤ n → n ≤ 9223372036854775807 → Calls Tryz.prog 182 #[.int .i64 n] w (Gives w (pk (minp (gz 2 n))))
structure BGenC : Prop where
  no : ∀ (t : Int) (w : World), t < 1 ∨ 8 < t → -9223372036854775808 ≤ t → t ≤ 9223372036854775807 → Calls Tryz.prog 164 #[.int .i64 t] w (GivesE w [] 1)
  yes : ∀ (t : Nat) (w : World), 1 ≤ t → t ≤ 8 → Calls Tryz.prog 164 #[.int .i64 t] w (GivesE w (pk (genTo t)) 0)

theorem isB_all (z : List Int) (h : z.all (fun n => decide (0 ≤ n ∧ n ≤ 255)) = true) : IsB z := by
  intro n hn
  have := List.all_eq_true.1 h n hn
  simpa using this
theorem pow_two_ok (n : Int) : gz 2 n < 8192 ∧ gz 2 n ≠ 0 := ⟨gz_lt 2 n (by decide), gpow_ne_zero 2 _ (by decide) (by decide)⟩
theorem min_ok (n : Int) : IsMin (gz 2 n) (minp (gz 2 n)) := minp_is _ (pow_two_ok n).1 (pow_two_ok n).2
theorem gen_norm (t : Nat) : norm (bts (pk (genTo t))) = genTo t := by rw [norm_ext (bts_pk (is01_genTo t)), norm_genTo]
theorem bgen_len (t : Nat) (h : t ≤ 8) : (pk (genTo t)).length ≤ 14 := by rw [length_pk, length_genTo t h]; omega
theorem nil_row (w : World) : Row .u8 w none 0 0 [] := ⟨rfl, Nat.le_refl _, Nat.zero_le _, fun _ => rfl, fun h => absurd h (by omega)⟩

end Go.Proofs.YtgamakejaknagaaGreat

/-
  The plain mathematics of layer 4's code, as it landed: bytes that are added into bytes at any bit (addRaised), and the product of an element's conjugates' factors (Minimal): it is the least polynomial.
-/
namespace Go.Proofs.YtgamakejaknagaaGreat
open Go.RowKit
set_option linter.unusedVariables false
set_option maxRecDepth 8192

/-- A byte, raised by b bits: what stays in the byte, and what goes on. -/
def loPart (c : Int) (b : Nat) : Int := c * 2 ^ b % 256
def hiPart (c : Int) (b : Nat) : Int := c / 2 ^ (8 - b)
theorem fin_lo : ∀ c : Fin 256, ∀ b k : Fin 8, bitAt ((c.val : Int) * 2 ^ b.val % 256) k.val = if b.val ≤ k.val then bitAt (c.val : Int) (k.val - b.val) else 0 := by decide +kernel
theorem fin_hi : ∀ c : Fin 256, ∀ b k : Fin 8, bitAt ((c.val : Int) / 2 ^ (8 - b.val)) k.val = if k.val < b.val then bitAt (c.val : Int) (8 - b.val + k.val) else 0 := by decide +kernel
theorem lo_bit (c : Int) (b k : Nat) (h0 : 0 ≤ c) (h1 : c ≤ 255) (hb : b < 8) (hk : k < 8) : bitAt (loPart c b) k = if b ≤ k then bitAt c (k - b) else 0 :=
  of_fin (P := fun c => bitAt (c * 2 ^ b % 256) k = if b ≤ k then bitAt c (k - b) else 0) (fun c => fin_lo c ⟨b, hb⟩ ⟨k, hk⟩) c h0 h1
theorem hi_bit (c : Int) (b k : Nat) (h0 : 0 ≤ c) (h1 : c ≤ 255) (hb : b < 8) (hk : k < 8) : bitAt (hiPart c b) k = if k < b then bitAt c (8 - b + k) else 0 :=
  of_fin (P := fun c => bitAt (c / 2 ^ (8 - b)) k = if k < b then bitAt c (8 - b + k) else 0) (fun c => fin_hi c ⟨b, hb⟩ ⟨k, hk⟩) c h0 h1
theorem lo_range (c : Int) (b : Nat) : 0 ≤ loPart c b ∧ loPart c b ≤ 255 := by unfold loPart; omega
theorem hi_range (c : Int) (b : Nat) (h0 : 0 ≤ c) (h1 : c ≤ 255) : 0 ≤ hiPart c b ∧ hiPart c b ≤ 255 := shr_le c (8 - b) h0 h1
theorem xor_bits (x y : Int) (h0 : 0 ≤ x) (h1 : x ≤ 255) (g0 : 0 ≤ y) (g1 : y ≤ 255) (k : Nat) : bitAt (bits .xor .u8 x y) k = (bitAt x k + bitAt y k) % 2 := by
  have h := xor_bit x y h0 h1 g0 g1 k
  rcases bitAt_01 (bits .xor .u8 x y) k with e | e <;> rcases bitAt_01 x k with f | f <;> rcases bitAt_01 y k with g | g <;> rw [e, f, g] at h ⊢ <;> simp at h ⊢

/-- A number added into a byte. -/
def xorAt (z : List Int) (j : Nat) (v : Int) : List Int := z.set j (bits .xor .u8 (z[j]?.getD 0) v)
theorem length_xorAt (z : List Int) (j : Nat) (v : Int) : (xorAt z j v).length = z.length := by simp [xorAt]
theorem isB_xorAt {z : List Int} (h : IsB z) (j : Nat) (v : Int) (h0 : 0 ≤ v) (h1 : v ≤ 255) : IsB (xorAt z j v) := by
  intro n hn
  rcases List.mem_or_eq_of_mem_set hn with hn | rfl
  · exact h n hn
  · exact xor_range _ _ (h.idx j).1 (h.idx j).2 h0 h1
theorem xorAt_at (z : List Int) (j i : Nat) (v : Int) (hj : j < z.length) : (xorAt z j v)[i]?.getD 0 = if i = j then bits .xor .u8 (z[j]?.getD 0) v else z[i]?.getD 0 := by
  unfold xorAt
  rw [List.getElem?_set]
  by_cases e : i = j
  · subst e; simp [hj]
  · rw [if_neg (fun h => e h.symm), if_neg e]
theorem bitI_xorAt {z : List Int} (h : IsB z) (j : Nat) (v : Int) (hj : j < z.length) (h0 : 0 ≤ v) (h1 : v ≤ 255) (i : Nat) : bitI (xorAt z j v) i = if i / 8 = j then (bitI z i + bitAt v (i % 8)) % 2 else bitI z i := by
  unfold bitI
  rw [xorAt_at z j (i / 8) v hj]
  by_cases e : i / 8 = j
  · subst e
    rw [if_pos rfl, if_pos rfl, xor_bits _ _ (h.idx _).1 (h.idx _).2 h0 h1]
  · rw [if_neg e, if_neg e]

/-- A byte added into bytes at the bit 8f + b. -/
def addByte (z : List Int) (f b : Nat) (c : Int) : List Int := if hiPart c b = 0 then xorAt z f (loPart c b) else xorAt (xorAt z f (loPart c b)) (f + 1) (hiPart c b)
theorem length_addByte (z : List Int) (f b : Nat) (c : Int) : (addByte z f b c).length = z.length := by unfold addByte; split <;> simp [length_xorAt]
theorem isB_addByte {z : List Int} (h : IsB z) (f b : Nat) (c : Int) (h0 : 0 ≤ c) (h1 : c ≤ 255) : IsB (addByte z f b c) := by
  have hl := lo_range c b
  have hh := hi_range c b h0 h1
  unfold addByte
  split
  · exact isB_xorAt h _ _ hl.1 hl.2
  · exact isB_xorAt (isB_xorAt h _ _ hl.1 hl.2) _ _ hh.1 hh.2
theorem bitI_addByte {z : List Int} (h : IsB z) (f b : Nat) (c : Int) (h0 : 0 ≤ c) (h1 : c ≤ 255) (hb : b < 8) (hf : f < z.length) (hf' : hiPart c b ≠ 0 → f + 1 < z.length) (i : Nat) :
    bitI (addByte z f b c) i = (bitI z i + if 8 * f + b ≤ i ∧ i < 8 * f + b + 8 then bitAt c (i - (8 * f + b)) else 0) % 2 := by
  have hl := lo_range c b
  have hh := hi_range c b h0 h1
  have hbz := bitI_01 z i
  have L := lo_bit c b (i % 8) h0 h1 hb (by omega)
  have H := hi_bit c b (i % 8) h0 h1 hb (by omega)
  unfold addByte
  by_cases hz : hiPart c b = 0
  · rw [if_pos hz, bitI_xorAt h f _ hf hl.1 hl.2]
    by_cases e : i / 8 = f
    · rw [if_pos e, L]
      by_cases hbk : b ≤ i % 8
      · rw [if_pos hbk, if_pos (by omega), show i - (8 * f + b) = i % 8 - b from by omega]
      · rw [if_neg hbk, if_neg (by omega)]
    · rw [if_neg e]
      rw [hz] at H
      by_cases hr : 8 * f + b ≤ i ∧ i < 8 * f + b + 8
      · rw [if_pos hr]
        rw [if_pos (by omega), show 8 - b + i % 8 = i - (8 * f + b) from by omega] at H
        rw [← H]
        unfold bitAt
        simp
        omega
      · rw [if_neg hr]; omega
  · rw [if_neg hz, bitI_xorAt (isB_xorAt h _ _ hl.1 hl.2) (f + 1) _ (by rw [length_xorAt]; exact hf' hz) hh.1 hh.2, bitI_xorAt h f _ hf hl.1 hl.2]
    by_cases e : i / 8 = f
    · rw [if_neg (by omega), if_pos e, L]
      by_cases hbk : b ≤ i % 8
      · rw [if_pos hbk, if_pos (by omega), show i - (8 * f + b) = i % 8 - b from by omega]
      · rw [if_neg hbk, if_neg (by omega)]
    · rw [if_neg e]
      by_cases e' : i / 8 = f + 1
      · rw [if_pos e', H]
        by_cases hbk : i % 8 < b
        · rw [if_pos hbk, if_pos (by omega), show i - (8 * f + b) = 8 - b + i % 8 from by omega]
        · rw [if_neg hbk, if_neg (by omega)]
      · rw [if_neg e', if_neg (by omega)]; omega

/-- What addRaised holds behind k rounds: q's first k bytes added in, raised by s. -/
def raiseTo (z y : List Int) (s : Nat) : Nat → List Int
  | 0 => z
  | k + 1 => addByte (raiseTo z y s k) (s / 8 + k) (s % 8) (y[k]?.getD 0)
theorem length_raiseTo (z y : List Int) (s k : Nat) : (raiseTo z y s k).length = z.length := by
  induction k with
  | zero => rfl
  | succ k ih => show (addByte _ _ _ _).length = _; rw [length_addByte, ih]
theorem isB_raiseTo {z y : List Int} (hz : IsB z) (hy : IsB y) (s k : Nat) : IsB (raiseTo z y s k) := by
  induction k with
  | zero => exact hz
  | succ k ih => exact isB_addByte ih _ _ _ (hy.idx k).1 (hy.idx k).2
/-- It fits. -/
theorem raise_fit {y : List Int} (hy : IsB y) (s n k : Nat) (h1 : s / 8 + y.length ≤ n) (h2 : (norm (bts y)).length + s ≤ 8 * n) (hk : k < y.length) (h : hiPart (y[k]?.getD 0) (s % 8) ≠ 0) : s / 8 + k + 1 < n := by
  rcases Nat.lt_or_ge (s / 8 + k + 1) n with h' | h'
  · exact h'
  · exfalso
    apply h
    have hi := hy.idx k
    have hr := hi_range (y[k]?.getD 0) (s % 8) hi.1 hi.2
    refine byte_ext _ 0 hr.1 hr.2 (by decide) (by decide) fun j hj => ?_
    rw [hi_bit _ _ j hi.1 hi.2 (by omega) hj]
    have e0 : bitAt 0 j = 0 := by unfold bitAt; simp
    rw [e0]
    split
    · rename_i hlt
      have e := bitI_at y k (8 - s % 8 + j) (by omega)
      rw [← e, ← cf_bts_int, norm_above _ _ (by omega)]
      rfl
    · rfl
theorem bitI_raiseTo {z y : List Int} (hz : IsB z) (hy : IsB y) (s k : Nat) (h1 : s / 8 + y.length ≤ z.length) (h2 : (norm (bts y)).length + s ≤ 8 * z.length) (hk : k ≤ y.length) (i : Nat) :
    bitI (raiseTo z y s k) i = (bitI z i + if s ≤ i ∧ i < s + 8 * k then bitI y (i - s) else 0) % 2 := by
  induction k with
  | zero =>
    rw [if_neg (by omega)]
    have := bitI_01 z i
    show bitI z i = _
    omega
  | succ k ih =>
    have ih := ih (by omega)
    show bitI (addByte _ _ _ _) i = _
    rw [bitI_addByte (isB_raiseTo hz hy s k) _ _ _ (hy.idx k).1 (hy.idx k).2 (by omega) (by rw [length_raiseTo]; omega) (fun hne => by rw [length_raiseTo]; exact raise_fit hy s _ k h1 h2 (by omega) hne), ih]
    have e : 8 * (s / 8 + k) + s % 8 = s + 8 * k := by omega
    rw [e]
    by_cases ha : s ≤ i ∧ i < s + 8 * k
    · rw [if_pos ha, if_neg (by omega), if_pos (by omega)]; omega
    · rw [if_neg ha]
      by_cases hb : s + 8 * k ≤ i ∧ i < s + 8 * k + 8
      · rw [if_pos hb, if_pos (by omega)]
        have e := bitI_at y k (i - (s + 8 * k)) (by omega)
        rw [← e, show 8 * k + (i - (s + 8 * k)) = i - s from by omega]
        omega
      · rw [if_neg hb, if_neg (by omega)]; omega
/-- All of it: the sum with the raised polynomial. -/
theorem raise_all {z y : List Int} (hz : IsB z) (hy : IsB y) (s : Nat) (h1 : s / 8 + y.length ≤ z.length) (h2 : (norm (bts y)).length + s ≤ 8 * z.length) :
    Eqv (bts (raiseTo z y s y.length)) (addL (bts z) (mulL (bts y) (xs s))) := fun i => by
  apply Int.ofNat.inj
  show ((cf (bts (raiseTo z y s y.length)) i : Nat) : Int) = ((cf (addL (bts z) (mulL (bts y) (xs s))) i : Nat) : Int)
  rw [cf_bts_int, bitI_raiseTo hz hy s _ h1 h2 (Nat.le_refl _), cf_addL, cf_mul_xs _ _ _ (is01_bts y).isP]
  by_cases h : s ≤ i
  · rw [if_pos h, xor_int ((is01_bts z).cf i) ((is01_bts y).cf _), cf_bts_int, cf_bts_int]
    by_cases h' : i < s + 8 * y.length
    · rw [if_pos ⟨h, h'⟩]
    · rw [if_neg (by omega), bitI_past y _ (by omega)]
  · rw [if_neg h, if_neg (by omega), Nat.xor_zero, cf_bts_int]
    have := bitI_01 z i
    omega

/-- The product so far, of Mul. -/
theorem mul_take_step {p q : List Nat} (hp : Is01 p) (hq : Is01 q) (k : Nat) (hk : k < p.length) (h : cf p k = 1) :
    Eqv (mulL (p.take (k + 1)) q) (addL (mulL (p.take k) q) (mulL q (xs k))) := fun i => by
  rw [List.take_add_one, List.getElem?_eq_getElem hk]
  show cf (mulL (p.take k ++ [p[k]]) q) i = _
  have e : p[k] = 1 := by rw [← h]; unfold cf; rw [List.getElem?_eq_getElem hk]; rfl
  rw [e, mulL_snoc _ _ _ (is01_take hp k).isP hq.isP (by decide), cf_addL, cf_mul_xs _ _ _ hq.isP, List.length_take, Nat.min_eq_left (by omega)]
  split
  · rw [one_gmul _ (cf_lt hq.isP _)]
  · rfl
theorem mul_take_skip {p q : List Nat} (hp : Is01 p) (hq : Is01 q) (k : Nat) (h : cf p k = 0) : Eqv (mulL (p.take (k + 1)) q) (mulL (p.take k) q) := by
  refine mulL_left q (is01_take hp _).isP (is01_take hp _).isP hq.isP fun i => ?_
  unfold cf at h ⊢
  rw [List.getElem?_take, List.getElem?_take]
  by_cases e : i < k
  · rw [if_pos e, if_pos (by omega)]
  · rw [if_neg e]
    by_cases e' : i < k + 1
    · rw [if_pos e', show i = k from by omega, h]; rfl
    · rw [if_neg e']
/-- One round of Mod. -/
theorem mod_step {p q r r' : List Nat} {k d : Nat} (hq : Is01 q) (hr : Is01 r) (hd : (norm q).length = d + 1) (h : d < k) (hz : ∀ i, k ≤ i → cf r i = 0) (h1 : cf r (k - 1) = 1)
    (hb : ∃ c, Is01 c ∧ Eqv (addL (mulL q c) r) p) (he : Eqv r' (addL r (mulL q (xs (k - 1 - d))))) :
    (∃ c, Is01 c ∧ Eqv (addL (mulL q c) r') p) ∧ ∀ i, k - 1 ≤ i → cf r' i = 0 := by
  obtain ⟨c, hc, e⟩ := hb
  refine ⟨⟨addL c (xs (k - 1 - d)), is01_addL hc (is01_xs _), fun i => ?_⟩, fun i hi => ?_⟩
  · rw [cf_addL, mulL_add_right q c _ i, cf_addL, he i, cf_addL]
    have := e i
    rw [cf_addL] at this
    rw [← this, Nat.xor_comm (cf r i), Nat.xor_assoc, ← Nat.xor_assoc (cf (mulL q (xs (k - 1 - d))) i), Nat.xor_self, Nat.zero_xor]
  · rw [he i, cf_addL, cf_mul_xs _ _ _ hq.isP, if_pos (by omega)]
    by_cases e1 : i = k - 1
    · subst e1
      have l2 := norm_last q (by intro e; rw [e] at hd; simp at hd)
      rw [cf_norm, hd, show d + 1 - 1 = d from rfl] at l2
      have b2 := hq.cf d
      rw [h1, show k - 1 - (k - 1 - d) = d from by omega, show cf q d = 1 from by omega]
      rfl
    · rw [hz i (by omega), norm_above q _ (by omega)]; rfl

/-! Conjugates. -/
/-- The product of the factors of some elements. -/
def prodTo (cs : List Nat) : List Nat := cs.foldl (fun p c => norm (mulL p [c, 1])) [1]
theorem prodTo_snoc (cs : List Nat) (c : Nat) : prodTo (cs ++ [c]) = norm (mulL (prodTo cs) [c, 1]) := by simp [prodTo]
structure ProdOk (cs p : List Nat) : Prop where
  isP : IsP p
  nm : norm p = p
  len : p.length = cs.length + 1
  top : cf p cs.length = 1
  root : ∀ r ∈ cs, evl p r = 0
theorem prod_ok (cs : List Nat) (h : ∀ c ∈ cs, c < 8192) : ProdOk cs (prodTo cs) := by
  suffices H : ∀ k, k ≤ cs.length → ProdOk (cs.take k) (prodTo (cs.take k)) by
    have := H cs.length (Nat.le_refl _)
    rwa [List.take_length] at this
  intro k
  induction k with
  | zero =>
    intro _
    rw [List.take_zero]
    exact ⟨fun x hx => by simp [prodTo] at hx; omega, by decide, rfl, rfl, fun r hr => absurd hr (by simp)⟩
  | succ k ih =>
    intro hk
    have ih := ih (by omega)
    have hlk : (cs.take k).length = k := by rw [List.length_take]; omega
    have hck : cs[k] < 8192 := h _ (List.getElem_mem _)
    have hl1 := isP_lin1 hck
    rw [List.take_add_one, List.getElem?_eq_getElem (by omega)]
    show ProdOk (cs.take k ++ [cs[k]]) (prodTo (cs.take k ++ [cs[k]]))
    rw [prodTo_snoc]
    have hlen : (cs.take k ++ [cs[k]]).length = k + 1 := by rw [List.length_append, hlk]; rfl
    have ihl := ih.len
    have iht := ih.top
    have hiP := ih.isP
    have hroot := ih.root
    rw [hlk] at ihl iht
    have hd := mulL_deg (prodTo (cs.take k)) [cs[k], 1] k 1 hiP hl1 (fun i hi => cf_big _ _ (by omega)) (fun i hi => cf_big _ _ (by simp; omega))
    have htop : cf (mulL (prodTo (cs.take k)) [cs[k], 1]) (k + 1) = 1 := by
      rw [hd.1, iht, show cf [cs[k], 1] 1 = 1 from rfl, one_gmul 1 (by decide)]
    have hpm := isP_mulL [cs[k], 1] hiP
    have hnl : (norm (mulL (prodTo (cs.take k)) [cs[k], 1])).length = k + 2 := by
      have hle := norm_len_le (mulL (prodTo (cs.take k)) [cs[k], 1]) (k + 2) fun i hi => hd.2 i (by omega)
      rcases Nat.lt_or_ge (k + 1) (norm (mulL (prodTo (cs.take k)) [cs[k], 1])).length with hh | hh
      · omega
      · rw [norm_above _ _ hh] at htop; exact absurd htop (by decide)
    refine ⟨isP_norm hpm, norm_norm _, by rw [hlen, hnl], by rw [hlen, cf_norm]; exact htop, fun r hr => ?_⟩
    have hrl : r < 8192 := by
      rcases List.mem_append.1 hr with hr | hr
      · exact h r (List.mem_of_mem_take hr)
      · simp at hr; subst hr; exact hck
    rw [evl_eqv r (norm_eqv _), evl_mul _ _ r hiP hl1 hrl]
    rcases List.mem_append.1 hr with hr | hr
    · rw [hroot r hr, zero_gmul _ (evl_lt hl1 r hrl)]
    · simp at hr
      subst hr
      rw [evl_lin1 _ _ hck, Nat.xor_self, gmul_zero]
/-- An element and its squares, until they come round. -/
def conjL (x : Nat) : List Nat := if x = 1 then [1] else (List.range 13).map (sqN x)
theorem conj_lt {x : Nat} (hx : x < 8192) : ∀ c ∈ conjL x, c < 8192 := by
  intro c hc
  unfold conjL at hc
  split at hc
  · simp at hc; omega
  · obtain ⟨k, _, rfl⟩ := List.mem_map.1 hc
    exact sqN_lt x k hx
theorem conj_nodup {x : Nat} (hx : x < 8192) (h0 : x ≠ 0) : (conjL x).Nodup := by
  unfold conjL
  split
  · simp
  · rename_i h1
    rw [List.Nodup, List.pairwise_map]
    refine List.Pairwise.imp_of_mem ?_ (List.pairwise_lt_range (n := 13))
    intro i j _ hj hlt he
    exact sqN_ne hx h0 h1 hlt (List.mem_range.1 hj) he
theorem conj_min {x : Nat} (hx : x < 8192) (h0 : x ≠ 0) : (minp x).length = (conjL x).length + 1 ∧ ∀ c ∈ conjL x, evl (minp x) c = 0 := by
  have hm := minp_is x hx h0
  have hl := hm.len
  unfold conjL
  split
  · rename_i h1
    subst h1
    rw [if_pos rfl] at hl
    refine ⟨hl, fun c hc => ?_⟩
    simp at hc
    subst hc
    exact hm.val
  · rename_i h1
    rw [if_neg h1] at hl
    refine ⟨by simp [hl], fun c hc => ?_⟩
    obtain ⟨k, _, rfl⟩ := List.mem_map.1 hc
    exact evl_sqN hm.h01 x hx hm.val k
/-- Their factors' product is the least polynomial. -/
theorem prod_min {x : Nat} (hx : x < 8192) (h0 : x ≠ 0) : prodTo (conjL x) = minp x := by
  have hp := prod_ok (conjL x) (conj_lt hx)
  have hm := minp_is x hx h0
  obtain ⟨hl, hr⟩ := conj_min hx h0
  have ht := is01_last hm.h01 hm.nm hl
  have hn : norm (addL (prodTo (conjL x)) (minp x)) = [] := by
    rcases Decidable.em (norm (addL (prodTo (conjL x)) (minp x)) = []) with e | e
    · exact e
    · exfalso
      have hd := roots_lt (conjL x) _ (isP_addL hp.isP hm.h01.isP) e (conj_nodup hx h0) fun c hc => ⟨conj_lt hx c hc, by rw [evl_add, hp.root c hc, hr c hc]; rfl⟩
      have hle : (norm (addL (prodTo (conjL x)) (minp x))).length ≤ (conjL x).length := norm_len_le _ _ fun i hi => by
        rw [cf_addL]
        by_cases e : i = (conjL x).length
        · subst e; rw [hp.top, ht]; rfl
        · rw [cf_big _ _ (by rw [hp.len]; omega), cf_big _ _ (by rw [hl]; omega)]; rfl
      omega
  rw [← hp.nm, ← hm.nm]
  refine norm_ext fun i => ?_
  have := (norm_nil_iff _).1 hn i
  rw [cf_addL] at this
  exact xor_zero_eq this
/-- Where the walk through them ends. -/
theorem conj_end {x k : Nat} (hx : x < 8192) (h0 : x ≠ 0) (hk : k < 13) (hne : ∀ j, 0 < j → j ≤ k → sqN x j ≠ x) (h : sqN x (k + 1) = x) : (List.range (k + 1)).map (sqN x) = conjL x := by
  unfold conjL
  split
  · rename_i h1
    subst h1
    have : k = 0 := by
      rcases Nat.eq_zero_or_pos k with e | e
      · exact e
      · exfalso
        refine hne 1 (by omega) e ?_
        show gmul 1 1 = 1
        decide
    subst this
    rfl
  · rename_i h1
    by_cases e : k + 1 = 13
    · rw [e]
    · exfalso
      exact sqN_ne hx h0 h1 (show 0 < k + 1 by omega) (by omega) (by rw [h]; rfl)
theorem conj_more {x k : Nat} (hx : x < 8192) (hk : k < 13) (h : sqN x (k + 1) ≠ x) : k + 1 < 13 := by
  by_cases e : k + 1 = 13
  · exfalso; apply h; rw [e]; exact sq13 x hx
  · omega
/-! Packed. -/
/-- Where coefficients are 1, below k. -/
def onesAt (l : List Nat) (k : Nat) : List Int := apartTo (List.replicate ((l.length + 7) / 8) 0) (pk l) k
theorem bitI_zeros (n i : Nat) : bitI (List.replicate n 0) i = 0 := by
  unfold bitI
  have : (List.replicate n (0 : Int))[i / 8]?.getD 0 = 0 := by
    rw [List.getElem?_replicate]
    split <;> rfl
  rw [this]
  unfold bitAt
  simp
theorem onesAt_hit {l : List Nat} (hl : Is01 l) (k : Nat) (h : cf l k = 1) : onesAt l (k + 1) = onesAt l k ++ [(k : Int)] := by
  unfold onesAt
  exact apartTo_hit _ _ _ (by rw [bitI_zeros, bitI_pk hl, h]; decide)
theorem onesAt_miss {l : List Nat} (hl : Is01 l) (k : Nat) (h : cf l k ≠ 1) : onesAt l (k + 1) = onesAt l k := by
  unfold onesAt
  refine apartTo_miss _ _ _ ?_
  have := hl.cf k
  rw [bitI_zeros, bitI_pk hl, show cf l k = 0 from by omega]
  rfl
theorem onesAt_all {l : List Nat} (hl : Is01 l) : onesAt l l.length = onesAt l (8 * ((l.length + 7) / 8)) := by
  have H : ∀ m, onesAt l (l.length + m) = onesAt l l.length := by
    intro m
    induction m with
    | zero => rfl
    | succ m ih => rw [← Nat.add_assoc, onesAt_miss hl _ (by rw [cf_big _ _ (by omega)]; decide), ih]
  have := H (8 * ((l.length + 7) / 8) - l.length)
  rw [← this]
  congr 1
  omega
theorem isB_zeros (n : Nat) : IsB (List.replicate n 0) := by
  intro x hx
  have := List.eq_of_mem_replicate hx
  omega
theorem turn_ones {l : List Nat} (hl : Is01 l) : turnI (List.replicate ((l.length + 7) / 8) 0) (onesAt l l.length) = pk l := by
  rw [onesAt_all hl]
  have := turn_apart (isB_zeros ((l.length + 7) / 8)) (isB_pk hl) (by rw [List.length_replicate, length_pk])
  rw [List.length_replicate] at this
  exact this
theorem onesAt_in {l : List Nat} (hl : Is01 l) : inAll ((l.length + 7) / 8) (onesAt l l.length) := by
  rw [onesAt_all hl]
  exact inAll_apartTo _ _ _

end Go.Proofs.YtgamakejaknagaaGreat

/-
  The code of layer 4 (bpoly), as it landed: coefficient, Degree, normal, addRaised, and from them Add, Mul, Mod return what the face asks.
-/
namespace Go.Proofs.YtgamakejaknagaaGreat
open Go.RowKit
set_option linter.unusedVariables false
set_option maxRecDepth 8192

set_option maxHeartbeats 400000 in
theorem bcoef_any (a : Option Addr) (len cap : Nat) (i : Nat) (z : List Int) (w : World) (hr : Row .u8 w a len cap z) (hb : IsB z) (hsm : len ≤ 1000) (hi : i ≤ 100000) :
    Calls Tryz.prog 185 #[.slice a len cap, .int .i64 i] w fun e w' => e = .returned (.int .i64 (bitI z i)) ∧ w = w' := by
  by_cases h : i < 8 * len
  · go_enter Tryz.func185, Tryz.ntmps185
    go_wp2_with fail
    refine (at_yes _ _ _ i z _ hr hb h hsm).mono ?_
    rintro e w' ⟨rfl, rfl⟩
    go_wp2_with fail
    go_ret
    exact ⟨rfl, rfl⟩
  · have hh : hasB len i = false := by unfold hasB; rw [decide_eq_false_iff_not]; omega
    have hz : bitI z i = 0 := bitI_past z i (by have := hr.hlen; omega)
    rw [hz]
    go_enter Tryz.func185, Tryz.ntmps185
    go_wp2_with fail
    refine (at_no _ _ _ (i : Int) _ (by unfold maxLen; omega) (by omega) (by omega) hh).mono ?_
    rintro e w' ⟨rfl, rfl⟩
    go_wp2_with fail
    go_ret
    exact ⟨rfl, rfl⟩

theorem deg_len' {p : List Nat} {k : Nat} (h : ∀ i, k ≤ i → cf p i = 0) (h1 : k = 0 ∨ cf p (k - 1) ≠ 0) : (norm p).length = k := by
  have hle := norm_len_le p k h
  rcases h1 with rfl | h1
  · omega
  · rcases Nat.lt_or_ge (k - 1) (norm p).length with hh | hh
    · by_cases e : k = 0
      · omega
      · omega
    · exact absurd (norm_above p _ hh) h1

set_option maxHeartbeats 800000 in
theorem bdeg_any (a : Option Addr) (len cap : Nat) (z : List Int) (w : World) (hr : Row .u8 w a len cap z) (hb : IsB z) (hsm : len ≤ 1000) :
    Calls Tryz.prog 183 #[.slice a len cap] w fun e w' => e = .returned (.int .i64 (((norm (bts z)).length : Int) - 1)) ∧ w = w' := by
  have HL : Hid (z.length = len) := hr.hlen
  go_enter Tryz.func183, Tryz.ntmps183
  go_wp2
  go_loop [3] (fun y => ∃ k : Nat, k ≤ 8 * len ∧ y = .int .i64 ((k : Int) - 1) ∧ ∀ i, k ≤ i → cf (bts z) i = 0) (fun y => (intOf y + 1).toNat)
  case atStart => exact ⟨8 * len, Nat.le_refl _, by go_num, fun i hi => cf_big _ i (by rw [length_bts, HL.out]; omega)⟩
  case round =>
    obtain ⟨k, hk, rfl, hz0'⟩ := hrel
    have HZ : Hid (∀ i, k ≤ i → cf (bts z) i = 0) := hz0'
    clear hz0'
    cases k with
    | zero =>
      have HT : Hid ((norm (bts z)).length = 0) := deg_len' HZ.out (.inl rfl)
      go_wp2
      go_ret
      exact ⟨ret_int (by rw [HT.out]; rfl), rfl⟩
    | succ m =>
      rw [show ((m + 1 : Nat) : Int) - 1 = (m : Int) from by omega]
      have HV : Hid ((cf (bts z) m : Int) = bitI z m) := cf_bts_int z m
      have h01 := bitI_01 z m
      go_wp2_with fail
      refine (bcoef_any _ _ _ m z _ hr hb hsm (by omega)).mono ?_
      rintro e w' ⟨rfl, rfl⟩
      rcases h01 with h0 | h0
      · have HC : Hid (cf (bts z) m = 0) := by show _ = _; have := HV.out; omega
        rw [h0]
        go_wp2
        go_round
        case rel =>
          refine ⟨m, by omega, by go_num, fun i hi => ?_⟩
          by_cases e : i = m
          · subst e; exact HC.out
          · exact HZ.out i (by omega)
        case measure => simp [intOf]
      · have HT : Hid ((norm (bts z)).length = m + 1) := deg_len' HZ.out (.inr (by show cf (bts z) m ≠ 0; have := HV.out; omega))
        rw [h0]
        go_wp2
        go_ret
        exact ⟨ret_int (by rw [HT.out]; omega), rfl⟩
theorem take_nb {z : List Int} (h : IsB z) : z.take (nb (bts z)).length = nb (bts z) := by
  have hle : (nb (bts z)).length ≤ z.length := by have := norm_length_le (bts z); rw [length_bts] at this; rw [length_nb]; omega
  refine bytes_ext (fun n hn => h n (List.mem_of_mem_take hn)) (isB_nb (is01_bts z)) (by rw [List.length_take]; omega) fun i hi => ?_
  rw [List.length_take, Nat.min_eq_left hle] at hi
  rw [← cf_bts_int (nb (bts z)), bts_nb (is01_bts z) i, cf_bts_int]
  unfold bitI
  rw [List.getElem?_take, if_pos (by omega)]
theorem bnb_len_le (z : List Int) : (nb (bts z)).length ≤ z.length := by have := norm_length_le (bts z); rw [length_bts] at this; rw [length_nb]; omega

set_option maxHeartbeats 400000 in
theorem bnormal_any (a : Option Addr) (len cap : Nat) (z : List Int) (w : World) (hr : Row .u8 w a len cap z) (hb : IsB z) (hsm : len ≤ 1000) :
    Calls Tryz.prog 184 #[.slice a len cap] w fun e w' => e = .returned (.slice a (nb (bts z)).length cap) ∧ w = w' := by
  have hc := hr.hcap
  have hm := hr.hmax
  have hnil := hr.hnil
  unfold maxLen at hm
  have hd := bdeg_any a len cap z w hr hb hsm
  have hle := bnb_len_le z
  rw [hr.hlen] at hle
  rw [length_nb] at hle ⊢
  clear hr
  generalize (norm (bts z)).length = d at *
  have e1 : IntKind.i64.wrap ((d : Int) - 1 + 8) = (d : Int) - 1 + 8 := by rw [IntKind.wrap_i64]; omega
  have e2 : ((d : Int) - 1 + 8).tdiv 8 = ((d + 7) / 8 : Nat) := by rw [Int.tdiv_eq_ediv_of_nonneg (by omega)]; omega
  go_enter Tryz.func184, Tryz.ntmps184
  go_wp2_with fail
  refine hd.mono ?_
  rintro e w' ⟨rfl, rfl⟩
  go_wp2_with fail
  go_ret
  exact ⟨rfl, rfl⟩

/-- What the first store of a round leaves. -/
theorem raise_set {k : IntKind} {e : TypeId} {w wr : World} {B g n cap q : Nat} {zs : List Int} {x : Int} (hB : B ≤ g) (hown : wr.ownsRow B e 1 (.slice (some ⟨g, 0, none⟩) n cap) n (zs.map (Value.int k))) (hnx : Below B w wr) :
    (wr.setCell ⟨g, q, none⟩ (.int k x)).drew.ownsRow B e 1 (.slice (some ⟨g, 0, none⟩) n cap) n ((zs.set q x).map (Value.int k)) ∧ Below B w (wr.setCell ⟨g, q, none⟩ (.int k x)).drew := by
  have R := owned_set (q := q) (x := x) hB hown hnx
  exact ⟨R.1.drew, R.2.drew⟩
set_option maxHeartbeats 1600000 in
set_option maxRecDepth 100000 in
theorem raised_any (w0 : World) (B g n cap : Nat) (c : Option Addr) (len' cap' : Nat) (z y : List Int) (s : Nat) (w : World) (hB : B ≤ g) (hBw : w0.heap.size ≤ B) (hown : w.ownsRow B 5 1 (.slice (some ⟨g, 0, none⟩) n cap) n (z.map (Value.int .u8)))
    (hnx : Below B w0 w) (hz : IsB z) (hr : Row .u8 w0 c len' cap' y) (hy : IsB y) (hs : s ≤ 100000) (h1 : s / 8 + len' ≤ n) (h2 : (norm (bts y)).length + s ≤ 8 * n) (hn : n ≤ 1000) :
    Calls Tryz.prog 186 #[.slice (some ⟨g, 0, none⟩) n cap, .slice c len' cap', .int .i64 s] w fun e w' => (∃ v, e = .returned v) ∧ w'.ownsRow B 5 1 (.slice (some ⟨g, 0, none⟩) n cap) n ((raiseTo z y s len').map (Value.int .u8)) ∧ Below B w0 w' := by
  have HL : Hid (y.length = len') := hr.hlen
  have HF : Hid (∀ k, k < len' → hiPart (y[k]?.getD 0) (s % 8) ≠ 0 → s / 8 + k + 1 < n) := fun k hk hne => raise_fit hy s n k (by rw [HL.out]; exact h1) h2 (by rw [HL.out]; exact hk) hne
  clear h2
  obtain ⟨f, hf⟩ : ∃ f, f = s / 8 := ⟨_, rfl⟩
  obtain ⟨b, hb⟩ : ∃ b, b = s % 8 := ⟨_, rfl⟩
  have hb8 : b < 8 := by omega
  have HS : Hid (∀ k, raiseTo z y s (k + 1) = addByte (raiseTo z y s k) (f + k) b (y[k]?.getD 0)) := fun k => by subst hf hb; rfl
  have HF' : Hid (∀ k, k < len' → hiPart (y[k]?.getD 0) b ≠ 0 → f + k + 1 < n) := by subst hf hb; exact HF.out
  have e1 : (s : Int).tdiv 8 = (f : Int) := by rw [Int.tdiv_eq_ediv_of_nonneg (by omega)]; omega
  have e2 : (s : Int).tmod 8 = (b : Int) := by rw [Int.tmod_eq_emod_of_nonneg (by omega)]; omega
  have e3 : (s : Int) / 8 = (f : Int) := by omega
  have e4 : (s : Int) % 8 = (b : Int) := by omega
  have hfn : f + len' ≤ n := by omega
  clear hf hb HF h1
  go_enter Tryz.func186, Tryz.ntmps186
  go_wp2
  go_loopw [17] (fun yv wr => ∃ i : Nat, i ≤ len' ∧ yv = .int .i64 i ∧ wr.ownsRow B 5 1 (.slice (some ⟨g, 0, none⟩) n cap) n ((raiseTo z y s i).map (Value.int .u8)) ∧ Below B w0 wr) (fun yv _ => len' - (intOf yv).toNat)
  case atStart => exact ⟨0, Nat.zero_le _, rfl, hown, hnx⟩
  case round =>
    clear hown hnx
    obtain ⟨i, hi, rfl, hown, hnx⟩ := hrel
    by_cases hlt : i < len'
    · have hrr := hr.below hnx hBw
      obtain ⟨bb, off, rfl, hbs, hcell⟩ := hrr.hcell (by omega)
      have hc1 := hcell i hlt
      clear hcell hrr
      have hyi := hy.idx i
      have hcl := owned_cell hown (f + i) (by omega)
      have hfz := hown.frozenAt (f + i)
      have HSi : Hid (raiseTo z y s (i + 1) = addByte (raiseTo z y s i) (f + i) b (y[i]?.getD 0)) := HS.out i
      have HFi : Hid (hiPart (y[i]?.getD 0) b ≠ 0 → f + i + 1 < n) := HF'.out i hlt
      generalize y[i]?.getD 0 = cc at *
      generalize raiseTo z y s i = zr at *
      have i1 : IntKind.i64.wrap ((f : Int) + (i : Int)) = (f : Int) + (i : Int) := by rw [IntKind.wrap_i64]; omega
      have i2 : ((f : Int) + (i : Int)).toNat = f + i := by omega
      have i3 : (0 : Int) ≤ (f : Int) + (i : Int) := by omega
      have i4 : (f : Int) + (i : Int) < (n : Int) := by omega
      have i5 : f + i < n := by omega
      have i6 : (i : Int) < (len' : Int) := by omega
      have j1 : IntKind.i64.wrap (8 - (b : Int)) = 8 - (b : Int) := by rw [IntKind.wrap_i64]; omega
      have j2 : (8 - (b : Int)).toNat = 8 - b := by omega
      have j3 : (0 : Int) ≤ 8 - (b : Int) := by omega
      by_cases hh : cc / 2 ^ (8 - b) = 0
      · have R := raise_set (q := f + i) (x := bits BinOp.xor IntKind.u8 (zr[f + i]?.getD 0) (cc * 2 ^ b % 256)) hB hown hnx
        have HE : Hid (zr.set (f + i) (bits BinOp.xor IntKind.u8 (zr[f + i]?.getD 0) (cc * 2 ^ b % 256)) = raiseTo z y s (i + 1)) := by
          show _ = _
          rw [HSi.out]
          unfold addByte
          rw [if_pos (show hiPart cc b = 0 from hh)]
          rfl
        rw [HE.out] at R
        have HR : Hid _ := R
        clear R hown hnx
        have hq : (cc / 2 ^ (8 - b) != 0) = false := by simp [hh]
        go_wp2
        go_region_with fail
        all_goals
          go_wp2
          go_roundw
          case rel => exact ⟨i + 1, by omega, by go_num, HR.out.1, HR.out.2⟩
          case measure => simp [intOf]; omega
      · have hfit : f + i + 1 < n := HFi.out hh
        have R1 := raise_set (q := f + i) (x := bits BinOp.xor IntKind.u8 (zr[f + i]?.getD 0) (cc * 2 ^ b % 256)) hB hown hnx
        have R := owned_set (q := f + i + 1) (x := bits BinOp.xor IntKind.u8 (zr[f + i + 1]?.getD 0) (cc / 2 ^ (8 - b))) hB R1.1 R1.2
        have HE : Hid ((zr.set (f + i) (bits BinOp.xor IntKind.u8 (zr[f + i]?.getD 0) (cc * 2 ^ b % 256))).set (f + i + 1) (bits BinOp.xor IntKind.u8 (zr[f + i + 1]?.getD 0) (cc / 2 ^ (8 - b))) = raiseTo z y s (i + 1)) := by
          show _ = _
          rw [HSi.out]
          unfold addByte
          rw [if_neg (show ¬ hiPart cc b = 0 from hh)]
          unfold xorAt loPart hiPart
          rw [List.getElem?_set_ne (show f + i ≠ f + i + 1 by omega)]
        rw [HE.out] at R
        have HR : Hid _ := R
        have hcl2 := owned_cell hown (f + i + 1) hfit
        have hfz2 := hown.frozenAt (f + i + 1)
        clear R R1 hown hnx
        have hq : (cc / 2 ^ (8 - b) != 0) = true := by simp [hh]
        have k1 : IntKind.i64.wrap ((f : Int) + (i : Int) + 1) = (f : Int) + (i : Int) + 1 := by rw [IntKind.wrap_i64]; omega
        have k2 : ((f : Int) + (i : Int) + 1).toNat = f + i + 1 := by omega
        have k3 : (0 : Int) ≤ (f : Int) + (i : Int) + 1 := by omega
        have k4 : (f : Int) + (i : Int) + 1 < (n : Int) := by omega
        go_wp2
        go_region_with fail
        all_goals
          go_wp2
          go_roundw
          case rel => exact ⟨i + 1, by omega, by go_num, HR.out.1, HR.out.2⟩
          case measure => simp [intOf]; omega
    · have e : i = len' := by omega
      subst e
      go_wp2
      go_end0
      exact ⟨⟨_, rfl⟩, hown, hnx⟩

end Go.Proofs.YtgamakejaknagaaGreat

/-
  The code of layer 4 (bpoly), as it landed: Add, Mul, Mod return what the face asks.
-/
namespace Go.Proofs.YtgamakejaknagaaGreat
open Go.RowKit
set_option linter.unusedVariables false
set_option maxRecDepth 8192

/-- A front of what a call owns is its own. -/
theorem owns_take {w : World} {base g n cap m : Nat} {e : TypeId} {k : IntKind} {zs : List Int} (h : w.ownsRow base e 1 (.slice (some ⟨g, 0, none⟩) n cap) n (zs.map (Value.int k))) (hm : m ≤ n) :
    w.ownsRow base e 1 (.slice (some ⟨g, 0, none⟩) m cap) m ((zs.take m).map (Value.int k)) := by
  have hl : zs.length = n := by have := h.1; simpa using this
  refine ⟨by simp; omega, ?_⟩
  rcases h.2 with ⟨h', _⟩ | ⟨g', cap', cur, h', hb, hg, hnc, hcm, hcs, htake⟩
  · simp at h'
  · simp only [Value.slice.injEq, Option.some.injEq, Addr.mk.injEq, and_true, true_and] at h'
    obtain ⟨rfl, rfl⟩ := h'
    refine .inr ⟨_, _, cur, rfl, hb, hg, by omega, hcm, hcs, ?_⟩
    have e1 := congrArg (fun l => l.take m) htake
    simp only [List.take_take, Nat.mul_one] at e1 ⊢
    rw [Nat.min_eq_left hm] at e1
    rw [e1, List.map_take]

/-- A call hands back bytes of its own. -/
def Owns (T : TypeId) (w : World) (z : List Int) (e : Ending) (w' : World) : Prop :=
  ∃ g cap, w.heap.size ≤ g ∧ e = .returned (.slice (some ⟨g, 0, none⟩) z.length cap) ∧ w'.ownsRow w.heap.size T 1 (.slice (some ⟨g, 0, none⟩) z.length cap) z.length (z.map (Value.int .u8)) ∧ Below w.heap.size w w'
theorem Owns.gives {T : TypeId} {w : World} {z : List Int} {e : Ending} {w' : World} (h : Owns T w z e w') : Gives w z e w' := by
  obtain ⟨g, cap, hg, rfl, hown, hb⟩ := h
  obtain ⟨a, cp, hv, hrow⟩ := row_of_owns hown
  simp only [Value.slice.injEq, true_and] at hv
  obtain ⟨rfl, rfl⟩ := hv
  exact ⟨_, _, rfl, hrow, hb⟩
/-- The front of an owned row that is its normal bytes. -/
theorem owns_nb {w : World} {base g n cap : Nat} {e : TypeId} {zs : List Int} (h : w.ownsRow base e 1 (.slice (some ⟨g, 0, none⟩) n cap) n (zs.map (Value.int .u8))) (hb : IsB zs) :
    w.ownsRow base e 1 (.slice (some ⟨g, 0, none⟩) (nb (bts zs)).length cap) (nb (bts zs)).length ((nb (bts zs)).map (Value.int .u8)) := by
  have hl : zs.length = n := by have := h.1; simpa using this
  have := owns_take h (show (nb (bts zs)).length ≤ n by have := bnb_len_le zs; omega)
  rwa [take_nb hb] at this
theorem isB_of_row {w : World} {base g n cap : Nat} {e : TypeId} {zs : List Int} (h : w.ownsRow base e 1 (.slice (some ⟨g, 0, none⟩) n cap) n (zs.map (Value.int .u8))) : Row .u8 w (some ⟨g, 0, none⟩) n cap zs := by
  obtain ⟨a, cp, hv, hrow⟩ := row_of_owns h
  simp only [Value.slice.injEq, true_and] at hv
  obtain ⟨rfl, rfl⟩ := hv
  exact hrow
theorem bts_zeros (n : Nat) : Eqv (bts (List.replicate n 0)) [] := fun i => by rw [cf_bts, bitI_zeros]; rfl
theorem mul_xs0 (q : List Nat) (hq : IsP q) : Eqv (mulL q (xs 0)) q := fun i => by rw [cf_mul_xs q 0 i hq, if_pos (Nat.zero_le _), Nat.sub_zero]
theorem norm_bts_le (z : List Int) : (norm (bts z)).length ≤ 8 * z.length := by have := norm_length_le (bts z); rwa [length_bts] at this

/-- The bytes of a sum, laid one by one. -/
theorem add_plain {x y : List Int} {n : Nat} (hx : IsB x) (hy : IsB y) (h1 : x.length ≤ n) (h2 : y.length ≤ n) :
    Eqv (bts (raiseTo (raiseTo (List.replicate n 0) x 0 x.length) y 0 y.length)) (addL (bts x) (bts y)) := by
  have n1 := norm_bts_le x
  have n2 := norm_bts_le y
  have e1 := raise_all (isB_zeros n) hx 0 (by simp; omega) (by simp; omega)
  have hb := isB_raiseTo (isB_zeros n) hx 0 x.length
  have e2 := raise_all hb hy 0 (by rw [length_raiseTo]; simp; omega) (by rw [length_raiseTo]; simp; omega)
  refine e2.trans (eqv_addL (e1.trans ?_) (mul_xs0 _ (is01_bts y).isP))
  exact (eqv_addL (bts_zeros n) (mul_xs0 _ (is01_bts x).isP)).trans fun i => by rw [cf_addL]; show 0 ^^^ _ = _; rw [Nat.zero_xor]
set_option maxHeartbeats 1600000 in
set_option maxRecDepth 100000 in
theorem badd_own (a c : Option Addr) (len cap len' cap' : Nat) (x y : List Int) (w : World) (hr : Row .u8 w a len cap x) (hr' : Row .u8 w c len' cap' y) (hx : IsB x) (hy : IsB y) (hsm : len ≤ 500) (hsm' : len' ≤ 500) :
    Calls Tryz.prog 168 #[.slice a len cap, .slice c len' cap'] w (Owns 5 w (nb (addL (bts x) (bts y)))) := by
  obtain ⟨i0, hi0, hz0, hz1, hz2⟩ := info_parts Tryz.info5
  have HL : Hid (x.length = len) := hr.hlen
  have HL' : Hid (y.length = len') := hr'.hlen
  have hNX : (norm (bts x)).length ≤ 8 * len := by have := norm_bts_le x; have := HL.out; omega
  have hNY : (norm (bts y)).length ≤ 8 * len' := by have := norm_bts_le y; have := HL'.out; omega
  have HN : ∃ n : Nat, ((n = len ∧ (len' : Int) ≤ (len : Int)) ∨ (n = len' ∧ (len : Int) < (len' : Int))) ∧ len ≤ n ∧ len' ≤ n ∧ n ≤ 500 := by
    rcases Nat.lt_or_ge len len' with h | h
    · exact ⟨len', .inr ⟨rfl, by omega⟩, by omega, Nat.le_refl _, hsm'⟩
    · exact ⟨len, .inl ⟨rfl, by omega⟩, Nat.le_refl _, h, hsm⟩
  obtain ⟨n, hn, hn1, hn2, hn3⟩ := HN
  have HE : Hid (Eqv (bts (raiseTo (raiseTo (List.replicate n 0) x 0 len) y 0 len')) (addL (bts x) (bts y))) := by
    have := add_plain hx hy (n := n) (by rw [HL.out]; exact hn1) (by rw [HL'.out]; exact hn2)
    rwa [HL.out, HL'.out] at this
  have HB : Hid (IsB (raiseTo (raiseTo (List.replicate n 0) x 0 len) y 0 len')) := isB_raiseTo (isB_raiseTo (isB_zeros n) hx 0 len) hy 0 len'
  have HB1 : Hid (IsB (raiseTo (List.replicate n 0) x 0 len)) := isB_raiseTo (isB_zeros n) hx 0 len
  have hmax : n ≤ maxLen := by unfold maxLen; omega
  have hmk : ∀ w1 : World, w1.ownsRow w.heap.size 5 1 (.slice (some ⟨w.heap.size, 0, none⟩) n n) n (madeCells (Value.int IntKind.u8 0).cells (n * 1)).toList → w.grownBy w1 none →
      w1.ownsRow w.heap.size 5 1 (.slice (some ⟨w.heap.size, 0, none⟩) n n) n ((List.replicate n 0).map (Value.int .u8)) ∧ Below w.heap.size w w1 := fun w1 h1 h2 => by
    rw [made_ints] at h1
    exact ⟨h1, (Below.refl _ _).grown h2 (Nat.le_refl _) (by simp)⟩
  rcases hn with ⟨rfl, hle⟩ | ⟨rfl, hle⟩
  all_goals
    go_enter Tryz.func168, Tryz.ntmps168
    go_wp2_with (at_make; refine wpList_make_full _ rfl _ _ 33 rfl w.heap.size 5 i0 (.int .u8 0) 1 Tryz.underlying33 hi0 hz0 hz1 _ _ _ _ _ rfl rfl rfl rfl (by rw [hz2]; omega) hmax (Nat.le_refl _) ?_; intro w1 hown1 hgrow1)
    obtain ⟨hown2, hb2⟩ := hmk w1 hown1 hgrow1
    clear hmk hown1 hgrow1
    refine (raised_any w w.heap.size w.heap.size _ _ a _ cap (List.replicate _ 0) x 0 _ (Nat.le_refl _) (Nat.le_refl _) hown2 hb2 (isB_zeros _) hr hx (by omega) (by omega) (by omega) (by omega)).mono ?_
    rintro e w2 ⟨⟨v, rfl⟩, hown3, hb3⟩
    clear hown2 hb2
    go_wp2_with fail
    refine (raised_any w w.heap.size w.heap.size _ _ c _ cap' _ y 0 _ (Nat.le_refl _) (Nat.le_refl _) hown3 hb3 HB1.out hr' hy (by omega) (by omega) (by omega) (by omega)).mono ?_
    rintro e w3 ⟨⟨v, rfl⟩, hown4, hb4⟩
    clear hown3 hb3
    have hown5 := owns_nb hown4 HB.out
    rw [nb_ext HE.out] at hown5
    have hrow4 := isB_of_row hown4
    go_wp2_with fail
    refine (bnormal_any _ _ _ _ _ hrow4 HB.out (by omega)).mono ?_
    rintro e w4 ⟨rfl, rfl⟩
    rw [nb_ext HE.out]
    go_wp2_with fail
    go_ret
    exact ⟨_, _, Nat.le_refl _, rfl, hown5, hb4⟩
theorem baddC : BAddC := fun a c len cap len' cap' x y w hr hr' hx hy h1 h2 => (badd_own a c len cap len' cap' x y w hr hr' hx hy h1 h2).mono fun e w' h => h.gives

end Go.Proofs.YtgamakejaknagaaGreat

/-
  The code of layer 4 (bpoly), as it landed: Mul, Mod return what the face asks.
-/
namespace Go.Proofs.YtgamakejaknagaaGreat
open Go.RowKit
set_option linter.unusedVariables false
set_option maxRecDepth 8192

theorem Row.nb {w : World} {a : Option Addr} {len cap : Nat} {z : List Int} (h : Row .u8 w a len cap z) (hb : IsB z) : Row .u8 w a (nb (bts z)).length cap (nb (bts z)) := by
  have := h.take (Go.Proofs.YtgamakejaknagaaGreat.nb (bts z)).length (by have := bnb_len_le z; have := h.hlen; omega)
  rwa [take_nb hb] at this

/-- What Mul holds when the powers below k are done. -/
structure MulAt (w : World) (T : TypeId) (n : Nat) (p q : List Nat) (k : Nat) (wr : World) : Prop where
  some : ∃ z, IsB z ∧ z.length = n ∧ Eqv (bts z) (mulL (p.take k) q) ∧ wr.ownsRow w.heap.size T 1 (.slice (some ⟨w.heap.size, 0, none⟩) n n) n (z.map (Value.int .u8))
  below : Below w.heap.size w wr
set_option maxHeartbeats 1600000 in
set_option maxRecDepth 100000 in
theorem bmulC : BMulC := by
  intro a c len cap len' cap' x y w hr hr' hx hy hsm hsm'
  obtain ⟨i0, hi0, hz0, hz1, hz2⟩ := info_parts Tryz.info5
  have hR1 := hr.nb hx
  have hR2 := hr'.nb hy
  have hB1 := isB_nb (is01_bts x)
  have hB2 := isB_nb (is01_bts y)
  have hl1 : (nb (bts x)).length ≤ 500 := by have := bnb_len_le x; have := hr.hlen; omega
  have hl2 : (nb (bts y)).length ≤ 500 := by have := bnb_len_le y; have := hr'.hlen; omega
  have HE : Hid (Eqv (mulL (bts (nb (bts x))) (bts (nb (bts y)))) (mulL (bts x) (bts y))) :=
    (mulL_right _ (bts_nb (is01_bts y))).trans (mulL_left _ (is01_bts _).isP (is01_bts _).isP (is01_bts y).isP (bts_nb (is01_bts x)))
  have hn1 := bnormal_any a len cap x w hr hx (by omega)
  have hn2 := bnormal_any c len' cap' y w hr' hy (by omega)
  have HL1 : Hid ((bts (nb (bts x))).length = 8 * (nb (bts x)).length) := length_bts _
  have HNQ : (norm (bts (nb (bts y)))).length ≤ 8 * (nb (bts y)).length := norm_bts_le _
  generalize nb (bts x) = p at *
  generalize nb (bts y) = q at *
  generalize hlp : p.length = lp at *
  generalize hlq : q.length = lq at *
  clear hr hr'
  have hmax : lp + lq ≤ maxLen := by unfold maxLen; omega
  have hmk : ∀ w1 : World, w1.ownsRow w.heap.size 5 1 (.slice (some ⟨w.heap.size, 0, none⟩) (lp + lq) (lp + lq)) (lp + lq) (madeCells (Value.int IntKind.u8 0).cells ((lp + lq) * 1)).toList → w.grownBy w1 none →
      MulAt w 5 (lp + lq) (bts p) (bts q) 0 w1 := fun w1 h1 h2 => by
    rw [made_ints] at h1
    exact ⟨⟨_, isB_zeros _, by simp, bts_zeros _, h1⟩, (Below.refl _ _).grown h2 (Nat.le_refl _) (by simp)⟩
  have HST : Hid (∀ k wr, k < 8 * lp → MulAt w 5 (lp + lq) (bts p) (bts q) k wr → ∀ z w', cf (bts p) k = 1 → IsB z → z.length = lp + lq → Eqv (bts z) (mulL ((bts p).take k) (bts q)) →
      w'.ownsRow w.heap.size 5 1 (.slice (some ⟨w.heap.size, 0, none⟩) (lp + lq) (lp + lq)) (lp + lq) ((raiseTo z q k lq).map (Value.int .u8)) → Below w.heap.size w w' → MulAt w 5 (lp + lq) (bts p) (bts q) (k + 1) w') := by
    intro k wr hk hA z w' hc hz hzl he ho hb
    refine ⟨⟨_, isB_raiseTo hz hB2 k lq, by rw [length_raiseTo, hzl], ?_, ho⟩, hb⟩
    have := raise_all hz hB2 k (by rw [hlq, hzl]; omega) (by rw [hzl]; omega)
    rw [hlq] at this
    exact this.trans ((eqv_addL he (Eqv.refl _)).trans (mul_take_step (is01_bts p) (is01_bts q) k (by rw [HL1.out]; exact hk) hc).symm)
  have HSK : Hid (∀ k wr, MulAt w 5 (lp + lq) (bts p) (bts q) k wr → cf (bts p) k = 0 → MulAt w 5 (lp + lq) (bts p) (bts q) (k + 1) wr) := by
    rintro k wr ⟨⟨z, hz, hzl, he, ho⟩, hb⟩ hc
    exact ⟨⟨z, hz, hzl, he.trans (mul_take_skip (is01_bts p) (is01_bts q) k hc).symm, ho⟩, hb⟩
  have HEN : Hid (∀ wr, MulAt w 5 (lp + lq) (bts p) (bts q) (8 * lp) wr → ∃ z, IsB z ∧ z.length = lp + lq ∧ nb (bts z) = nb (mulL (bts x) (bts y)) ∧ wr.ownsRow w.heap.size 5 1 (.slice (some ⟨w.heap.size, 0, none⟩) (lp + lq) (lp + lq)) (lp + lq) (z.map (Value.int .u8)) ∧ Below w.heap.size w wr) := by
    rintro wr ⟨⟨z, hz, hzl, he, ho⟩, hb⟩
    rw [List.take_of_length_le (by rw [HL1.out]; exact Nat.le_refl _)] at he
    exact ⟨z, hz, hzl, nb_ext (he.trans HE.out), ho, hb⟩
  have HLP : Hid (p.length = lp) := hlp
  have HLQ : Hid (q.length = lq) := hlq
  clear hlp hlq HE HL1
  go_enter Tryz.func166, Tryz.ntmps166
  go_wp2_with fail
  refine hn1.mono ?_
  rintro e w' ⟨rfl, rfl⟩
  go_wp2_with fail
  refine hn2.mono ?_
  rintro e w' ⟨rfl, rfl⟩
  clear hn1 hn2
  go_wp2_with (at_make; refine wpList_make_full _ rfl _ _ 33 rfl w.heap.size 5 i0 (.int .u8 0) 1 Tryz.underlying33 hi0 hz0 hz1 _ _ _ _ (lp + lq) rfl rfl (by omega) (by omega) (by rw [hz2]; omega) hmax (Nat.le_refl _) ?_; intro w1 hown1 hgrow1)
  have hA0 := hmk w1 hown1 hgrow1
  clear hmk hown1 hgrow1
  go_loopw [20] (fun yv wr => ∃ k : Nat, k ≤ 8 * lp ∧ yv = .int .i64 k ∧ MulAt w 5 (lp + lq) (bts p) (bts q) k wr) (fun yv _ => 8 * lp - (intOf yv).toNat)
  case atStart => exact ⟨0, Nat.zero_le _, rfl, hA0⟩
  case round =>
    clear hA0
    obtain ⟨k, hk, rfl, hA⟩ := hrel
    by_cases hlt : k < 8 * lp
    · have hkk : (k : Int) < (lp : Int) * 8 := by omega
      have hrr := hR1.below hA.below (Nat.le_refl _)
      have HV : Hid ((cf (bts p) k : Int) = bitI p k) := cf_bts_int p k
      have h01 := bitI_01 p k
      go_wp2_with fail
      refine (bcoef_any _ _ _ k p _ hrr hB1 (by omega) (by omega)).mono ?_
      rintro e w' ⟨rfl, rfl⟩
      rcases h01 with h0 | h0
      · have HC : Hid (cf (bts p) k = 0) := by show _ = _; have := HV.out; omega
        rw [h0]
        have HA : Hid _ := HSK.out k _ hA HC.out
        clear hA hrr
        go_wp2_with fail
        go_roundw
        case rel => exact ⟨k + 1, by omega, by go_num, HA.out⟩
        case measure => simp [intOf]; omega
      · have HC : Hid (cf (bts p) k = 1) := by show _ = _; have := HV.out; omega
        rw [h0]
        obtain ⟨z, hz, hzl, he, ho⟩ := hA.some
        have HZL : Hid (z.length = lp + lq) := hzl
        have HST' := HST.out k _ hlt hA z
        have HST2 : Hid _ := HST'
        have hb := hA.below
        clear hA hrr hzl HST'
        go_wp2_with fail
        refine (raised_any w w.heap.size w.heap.size (lp + lq) (lp + lq) c lq cap' z q k _ (Nat.le_refl _) (Nat.le_refl _) ho hb hz hR2 hB2 (by omega) (by omega) (by omega) (by omega)).mono ?_
        rintro e w2 ⟨⟨v, rfl⟩, ho2, hb2⟩
        have HA : Hid _ := HST2.out w2 HC.out hz HZL.out he ho2 hb2
        clear ho hb ho2 hb2
        go_wp2_with fail
        go_roundw
        case rel => exact ⟨k + 1, by omega, by go_num, HA.out⟩
        case measure => simp [intOf]; omega
    · have e : k = 8 * lp := by omega
      subst e
      obtain ⟨z, hz, hzl, he, ho, hb⟩ := HEN.out _ hA
      have HZ : Hid (nb (bts z) = nb (mulL (bts x) (bts y))) := he
      clear hA he hzl
      have hown5 := owns_nb ho hz
      rw [HZ.out] at hown5
      have hrow4 := isB_of_row ho
      have hkk : ¬ ((8 * lp : Nat) : Int) < (lp : Int) * 8 := by omega
      go_wp2_with fail
      refine (bnormal_any _ _ _ _ _ hrow4 hz (by omega)).mono ?_
      rintro e w4 ⟨rfl, rfl⟩
      rw [HZ.out]
      go_wp2_with fail
      go_ret
      exact Owns.gives (T := 5) ⟨_, _, Nat.le_refl _, rfl, hown5, hb⟩

/-- What Mod holds when the powers from k on are done. -/
structure ModAt (w : World) (T : TypeId) (g n cp : Nat) (p q : List Nat) (k : Nat) (wr : World) : Prop where
  some : ∃ z, IsB z ∧ z.length = n ∧ (∀ i, k ≤ i → cf (bts z) i = 0) ∧ (∃ c, Is01 c ∧ Eqv (addL (mulL q c) (bts z)) p) ∧ wr.ownsRow w.heap.size T 1 (.slice (some ⟨g, 0, none⟩) n cp) n (z.map (Value.int .u8))
  below : Below w.heap.size w wr
theorem ModAt.le {w : World} {T : TypeId} {g n cp : Nat} {p q : List Nat} {k : Nat} {wr : World} (h : ModAt w T g n cp p q k wr) (m : Nat) (hm : k ≤ m) : ModAt w T g n cp p q m wr := by
  obtain ⟨⟨z, h1, h2, h3, h4, h5⟩, hb⟩ := h
  exact ⟨⟨z, h1, h2, fun i hi => h3 i (by omega), h4, h5⟩, hb⟩
theorem givesE_nil (w : World) (n : Int) : GivesE w [] n (.returned (.tuple #[.slice none 0 0, .int .i64 n])) w := ⟨none, 0, rfl, nil_row w, Below.refl _ _⟩
set_option maxHeartbeats 1600000 in
set_option maxRecDepth 100000 in
theorem bmodC : BModC where
  zero := by
    intro a c len cap len' cap' x y w hr hr' hx hy hsm hsm' hz
    have hd := bdeg_any c len' cap' y w hr' hy (by omega)
    rw [hz] at hd
    go_enter Tryz.func165, Tryz.ntmps165
    go_wp2_with fail
    refine hd.mono ?_
    rintro e w' ⟨rfl, rfl⟩
    rw [show ((([] : List Nat).length : Nat) : Int) - 1 = -1 from rfl]
    go_wp2_with fail
    go_ret2
    exact givesE_nil _ _
  yes := by
    intro a c len cap len' cap' x y w hr hr' hx hy hsm hsm' hne
    have hd := bdeg_any c len' cap' y w hr' hy (by omega)
    have hn := bnormal_any c len' cap' y w hr' hy (by omega)
    have hR2 := hr'.nb hy
    have hB2 := isB_nb (is01_bts y)
    have HLY : Hid ((nb (bts y)).length = ((norm (bts y)).length + 7) / 8) := length_nb _
    have HNY : Hid (norm (bts (nb (bts y))) = norm (bts y)) := norm_bts_nb (is01_bts y)
    have HEY : Hid (Eqv (bts (nb (bts y))) (bts y)) := bts_nb (is01_bts y)
    have hl2 : (nb (bts y)).length ≤ 500 := by have := bnb_len_le y; have := hr'.hlen; omega
    obtain ⟨d, hdd⟩ : ∃ d, (norm (bts y)).length = d + 1 := ⟨(norm (bts y)).length - 1, by have := List.length_pos_iff.2 hne; omega⟩
    have HD : Hid ((norm (bts y)).length = d + 1) := hdd
    rw [hdd, show ((d + 1 : Nat) : Int) - 1 = (d : Int) from by omega] at hd
    have hd8 : d ≤ 4000 := by have := norm_bts_le y; have := hr'.hlen; omega
    clear hdd
    have hadd := badd_own a none len cap 0 0 x [] w hr (nil_row w) hx (isB_all _ (by decide)) hsm (by omega)
    have HEX : Hid (Eqv (bts (nb (addL (bts x) (bts [])))) (bts x)) := (bts_nb (is01_addL (is01_bts x) (is01_bts []))).trans (addL_nil _)
    have hB1 : IsB (nb (addL (bts x) (bts []))) := isB_nb (is01_addL (is01_bts x) (is01_bts []))
    have hl1 : (nb (addL (bts x) (bts []))).length ≤ 500 := by
      rw [nb_ext (show Eqv (addL (bts x) (bts [])) (bts x) from addL_nil _)]
      have := bnb_len_le x; have := hr.hlen; omega
    generalize hq : nb (bts y) = q at *
    clear hq
    generalize nb (addL (bts x) (bts [])) = r at *
    generalize hlq : q.length = lq at *
    have HLQ : Hid (q.length = lq) := hlq
    generalize hlr : r.length = lr at *
    have HLR : Hid (r.length = lr) := hlr
    have HNQ : Hid ((norm (bts q)).length = d + 1) := by show _ = _; rw [HNY.out]; exact HD.out
    have hlq8 : lq = (d + 1 + 7) / 8 := by rw [HLY.out, HD.out]
    have HFIN : Hid (∀ g cp k wr, k ≤ d → ModAt w 5 g lr cp (bts x) (bts q) k wr → ∃ z, IsB z ∧ z.length = lr ∧ IsMod (bts x) (bts y) (bts z) ∧ wr.ownsRow w.heap.size 5 1 (.slice (some ⟨g, 0, none⟩) lr cp) lr (z.map (Value.int .u8)) ∧ Below w.heap.size w wr) := by
      rintro g cp k wr hk ⟨⟨z, h1, h2, h3, h4, h5⟩, hb⟩
      obtain ⟨cc, hcc, he⟩ := h4
      refine ⟨z, h1, h2, ⟨is01_bts z, ⟨cc, hcc, ?_⟩, ?_⟩, h5, hb⟩
      · exact (eqv_addL (mulL_left cc (is01_bts y).isP (is01_bts q).isP hcc.isP HEY.out.symm) (Eqv.refl _)).trans he
      · have := norm_len_le (bts z) k h3
        rw [HD.out]; omega
    have HST : Hid (∀ g cp k z wr, d < k → k ≤ 8 * lr → IsB z → z.length = lr → (∀ i, k ≤ i → cf (bts z) i = 0) → (∃ c, Is01 c ∧ Eqv (addL (mulL (bts q) c) (bts z)) (bts x)) → cf (bts z) (k - 1) = 1 →
        wr.ownsRow w.heap.size 5 1 (.slice (some ⟨g, 0, none⟩) lr cp) lr ((raiseTo z q (k - 1 - d) lq).map (Value.int .u8)) → Below w.heap.size w wr → ModAt w 5 g lr cp (bts x) (bts q) (k - 1) wr) := by
      intro g cp k z wr hk hk8 hz hzl h3 h4 hc ho hb
      have e := raise_all hz hB2 (k - 1 - d) (by rw [HLQ.out, hzl]; omega) (by rw [hzl, HNQ.out]; omega)
      rw [HLQ.out] at e
      have := mod_step (is01_bts q) (is01_bts z) HNQ.out hk h3 hc h4 e
      exact ⟨⟨_, isB_raiseTo hz hB2 _ _, by rw [length_raiseTo, hzl], this.2, this.1, ho⟩, hb⟩
    have HSK : Hid (∀ g cp k z wr, 0 < k → IsB z → z.length = lr → (∀ i, k ≤ i → cf (bts z) i = 0) → (∃ c, Is01 c ∧ Eqv (addL (mulL (bts q) c) (bts z)) (bts x)) → cf (bts z) (k - 1) = 0 →
        wr.ownsRow w.heap.size 5 1 (.slice (some ⟨g, 0, none⟩) lr cp) lr (z.map (Value.int .u8)) → Below w.heap.size w wr → ModAt w 5 g lr cp (bts x) (bts q) (k - 1) wr) := by
      intro g cp k z wr hk hz hzl h3 h4 hc ho hb
      refine ⟨⟨z, hz, hzl, fun i hi => ?_, h4, ho⟩, hb⟩
      by_cases e : i = k - 1
      · subst e; exact hc
      · exact h3 i (by omega)
    have HST0 : Hid (∀ g cp wr, wr.ownsRow w.heap.size 5 1 (.slice (some ⟨g, 0, none⟩) lr cp) lr (r.map (Value.int .u8)) → Below w.heap.size w wr → ModAt w 5 g lr cp (bts x) (bts q) (norm (bts r)).length wr) := by
      intro g cp wr ho hb
      refine ⟨⟨r, hB1, HLR.out, fun i hi => norm_above _ _ hi, ⟨[], fun x hx => absurd hx (by simp), fun i => ?_⟩, ho⟩, hb⟩
      rw [cf_addL, mulL_nil _ i]
      show 0 ^^^ _ = _
      rw [Nat.zero_xor, HEX.out i]
    have hdr8 : (norm (bts r)).length ≤ 8 * lr := by have := norm_bts_le r; have := HLR.out; omega
    have hsq : ∀ k, d < k → k ≤ 8 * lr → (k - 1 - d) / 8 + lq ≤ lr := fun k h1 h2 => by omega
    clear hlq hlr hlq8 HLY HNY HEY HEX
    go_enter Tryz.func165, Tryz.ntmps165
    go_wp2_with fail
    refine hd.mono ?_
    rintro e w' ⟨rfl, rfl⟩
    go_wp2_with fail
    refine hn.mono ?_
    rintro e w' ⟨rfl, rfl⟩
    clear hd hn
    go_wp2_with fail
    refine hadd.mono ?_
    rintro e w1 ⟨g, cp, hg, rfl, hown1, hb1⟩
    clear hadd
    rw [HLR.out] at hown1 ⊢
    have hrow1 := isB_of_row hown1
    go_wp2_with fail
    refine (bdeg_any _ _ _ r _ hrow1 hB1 (by omega)).mono ?_
    rintro e w' ⟨rfl, rfl⟩
    have hA0 := HST0.out g cp _ hown1 hb1
    clear hrow1 hown1 hb1 HST0
    generalize (norm (bts r)).length = kr at *
    go_wp2_with fail
    go_loopw [8] (fun yv wr => ∃ k : Nat, k ≤ kr ∧ yv = .int .i64 ((k : Int) - 1) ∧ ModAt w 5 g lr cp (bts x) (bts q) k wr) (fun yv _ => (intOf yv + 1).toNat)
    case atStart => exact ⟨kr, Nat.le_refl _, rfl, hA0⟩
    case round =>
      clear hA0
      obtain ⟨k, hk, rfl, hA⟩ := hrel
      by_cases hge : d < k
      · obtain ⟨m, rfl⟩ : ∃ m, k = m + 1 := ⟨k - 1, by omega⟩
        rw [show ((m + 1 : Nat) : Int) - 1 = (m : Int) from by omega]
        have hdm : (d : Int) ≤ (m : Int) := by omega
        obtain ⟨⟨z, hz, hzl, h3, h4, ho⟩, hb⟩ := hA
        have HZL : Hid (z.length = lr) := hzl
        have H3 : Hid (∀ i, m + 1 ≤ i → cf (bts z) i = 0) := h3
        have H4 : Hid (∃ c, Is01 c ∧ Eqv (addL (mulL (bts q) c) (bts z)) (bts x)) := h4
        clear hzl h3 h4
        have hrow := isB_of_row ho
        have HV : Hid ((cf (bts z) m : Int) = bitI z m) := cf_bts_int z m
        have h01 := bitI_01 z m
        go_wp2_with fail
        refine (bcoef_any _ _ _ m z _ hrow hz (by omega) (by omega)).mono ?_
        rintro e w' ⟨rfl, rfl⟩
        rcases h01 with h0 | h0
        · have HC : Hid (cf (bts z) m = 0) := by show _ = _; have := HV.out; omega
          rw [h0]
          have HA : Hid (ModAt w 5 g lr cp (bts x) (bts q) m wr) := HSK.out g cp (m + 1) z _ (by omega) hz HZL.out H3.out H4.out HC.out ho hb
          clear ho hb hrow
          go_wp2_with fail
          go_roundw
          case rel => exact ⟨m, by omega, by go_num, HA.out⟩
          case measure => simp [intOf]
        · have HC : Hid (cf (bts z) m = 1) := by show _ = _; have := HV.out; omega
          rw [h0]
          clear hrow
          have e1 : IntKind.i64.wrap ((m : Int) - (d : Int)) = ((m - d : Nat) : Int) := by rw [IntKind.wrap_i64]; omega
          have e2 : (m : Int) - (d : Int) = ((m - d : Nat) : Int) := by omega
          go_wp2_with fail
          refine (raised_any w w.heap.size g lr cp c lq cap' z q (m - d) _ hg (Nat.le_refl _) ho hb hz hR2 hB2 (by omega) (by have := hsq (m + 1) (by omega) (by omega); simpa using this) (by have := HNQ.out; omega) (by omega)).mono ?_
          rintro e w2 ⟨⟨v, rfl⟩, ho2, hb2⟩
          have HA : Hid (ModAt w 5 g lr cp (bts x) (bts q) m w2) := HST.out g cp (m + 1) z _ hge (by omega) hz HZL.out H3.out H4.out HC.out ho2 hb2
          clear ho hb ho2 hb2
          go_wp2_with fail
          go_roundw
          case rel => exact ⟨m, by omega, by go_num, HA.out⟩
          case measure => simp [intOf]
      · have hdm : ¬ (d : Int) ≤ (k : Int) - 1 := by omega
        have hdm' : (k : Int) - 1 < (d : Int) := by omega
        obtain ⟨z, hz, hzl, hm, ho, hb⟩ := HFIN.out g cp k _ (by omega) hA
        clear hA hzl
        have HM : Hid (IsMod (bts x) (bts y) (bts z)) := hm
        have hown5 := owns_nb ho hz
        have hrow4 := isB_of_row ho
        go_wp2_with fail
        refine (bnormal_any _ _ _ _ _ hrow4 hz (by omega)).mono ?_
        rintro e w4 ⟨rfl, rfl⟩
        clear hm
        go_wp2_with fail
        go_ret2
        obtain ⟨a5, cp5, hv5, hrow5⟩ := row_of_owns hown5
        simp only [Value.slice.injEq, true_and] at hv5
        obtain ⟨rfl, rfl⟩ := hv5
        first
          | exact ⟨_, HM.out, _, _, rfl, hrow5, hb⟩
          | exact ⟨bts z, HM.out, ⟨_, _, rfl, hrow5, hb⟩⟩

end Go.Proofs.YtgamakejaknagaaGreat
