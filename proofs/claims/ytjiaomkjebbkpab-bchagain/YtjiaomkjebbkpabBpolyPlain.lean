/-
  The plain mathematics of polynomials over two elements (lists of coefficients 0 and 1 within those over the field), of bytes that stand for them, and of the least polynomials of the field's elements. No program text is imported here.
-/
import Derived.Test.YtjiaomkjebbkpabPolyPlain
import Derived.Test.YtjiaomkjebbkpabBitsPlain
namespace Go.Proofs.Ytjiaomkjebbkpab
set_option linter.unusedVariables false

/-- Coefficients 0 and 1 alone. -/
def Is01 (p : List Nat) : Prop := ∀ x ∈ p, x < 2
theorem Is01.isP {p : List Nat} (h : Is01 p) : IsP p := fun x hx => by have := h x hx; omega
theorem Is01.cf {p : List Nat} (h : Is01 p) (i : Nat) : cf p i < 2 := by
  unfold Go.Proofs.Ytjiaomkjebbkpab.cf
  by_cases hi : i < p.length
  · rw [List.getElem?_eq_getElem hi]; exact h _ (List.getElem_mem hi)
  · rw [List.getElem?_eq_none (by omega)]; decide
theorem is01_of {p : List Nat} (h : ∀ i, cf p i < 2) : Is01 p := by
  intro x hx
  obtain ⟨i, hi, rfl⟩ := List.mem_iff_getElem.1 hx
  have := h i
  unfold cf at this
  rwa [List.getElem?_eq_getElem hi] at this
theorem is01_all (z : List Nat) (h : z.all (fun n => decide (n < 2)) = true) : Is01 z := by
  intro n hn
  have := List.all_eq_true.1 h n hn
  simpa using this
theorem is01_norm {p : List Nat} (h : Is01 p) : Is01 (norm p) := is01_of fun i => by rw [cf_norm]; exact h.cf i
theorem xor_01 {a b : Nat} (ha : a < 2) (hb : b < 2) : a ^^^ b = (a + b) % 2 := by
  have : ∀ a b : Fin 2, a.val ^^^ b.val = (a.val + b.val) % 2 := by decide
  exact this ⟨a, ha⟩ ⟨b, hb⟩
theorem gmul_01 {a b : Nat} (ha : a < 2) (hb : b < 2) : gmul a b = a * b := by
  have : ∀ a b : Fin 2, gmul a.val b.val = a.val * b.val := by decide +kernel
  exact this ⟨a, ha⟩ ⟨b, hb⟩
theorem is01_addL {p q : List Nat} (hp : Is01 p) (hq : Is01 q) : Is01 (addL p q) := is01_of fun i => by
  rw [cf_addL, xor_01 (hp.cf i) (hq.cf i)]; omega
theorem is01_smul {x : Nat} {q : List Nat} (hx : x < 2) (hq : Is01 q) : Is01 (smul x q) := is01_of fun i => by
  rw [cf_smul, gmul_01 hx (hq.cf i)]
  have := hq.cf i
  rcases (show x = 0 ∨ x = 1 by omega) with rfl | rfl <;> omega
theorem is01_cons {x : Nat} {p : List Nat} (h : Is01 (x :: p)) : x < 2 ∧ Is01 p := ⟨h _ (List.mem_cons_self), fun a ha => h a (List.mem_cons_of_mem _ ha)⟩
theorem is01_zero_cons {p : List Nat} (h : Is01 p) : Is01 (0 :: p) := by
  intro z hz
  rcases List.mem_cons.1 hz with rfl | hz
  · decide
  · exact h z hz
theorem is01_mulL {p q : List Nat} (hp : Is01 p) (hq : Is01 q) : Is01 (mulL p q) := by
  induction p with
  | nil => exact hp
  | cons x p ih => exact is01_addL (is01_smul (is01_cons hp).1 hq) (is01_zero_cons (ih (is01_cons hp).2))

/-- The bits of bytes. -/
def bts (z : List Int) : List Nat := (List.range (8 * z.length)).map fun i => (bitI z i).toNat
theorem length_bts (z : List Int) : (bts z).length = 8 * z.length := by simp [bts]
theorem bitI_past (z : List Int) (i : Nat) (h : 8 * z.length ≤ i) : bitI z i = 0 := by
  unfold bitI
  rw [List.getElem?_eq_none (by omega)]
  show bitAt 0 _ = 0
  unfold bitAt
  simp
theorem cf_bts (z : List Int) (i : Nat) : cf (bts z) i = (bitI z i).toNat := by
  by_cases h : i < 8 * z.length
  · simp [cf, bts, h]
  · rw [cf_big _ _ (by rw [length_bts]; omega), bitI_past z i (by omega)]; rfl
theorem cf_bts_int (z : List Int) (i : Nat) : (cf (bts z) i : Int) = bitI z i := by
  rw [cf_bts]
  rcases bitI_01 z i with h | h <;> rw [h] <;> rfl
theorem is01_bts (z : List Int) : Is01 (bts z) := is01_of fun i => by
  rw [cf_bts]
  rcases bitI_01 z i with h | h <;> rw [h] <;> decide

/-- Bytes of bits. -/
def byteOf (l : List Nat) (j : Nat) : Nat := cf l (8 * j) + 2 * cf l (8 * j + 1) + 4 * cf l (8 * j + 2) + 8 * cf l (8 * j + 3) + 16 * cf l (8 * j + 4) + 32 * cf l (8 * j + 5) + 64 * cf l (8 * j + 6) + 128 * cf l (8 * j + 7)
def pk (l : List Nat) : List Int := (List.range ((l.length + 7) / 8)).map fun j => (byteOf l j : Int)
theorem length_pk (l : List Nat) : (pk l).length = (l.length + 7) / 8 := by simp [pk]
theorem byteOf_lt {l : List Nat} (h : Is01 l) (j : Nat) : byteOf l j < 256 := by
  have h0 := h.cf (8 * j); have h1 := h.cf (8 * j + 1); have h2 := h.cf (8 * j + 2); have h3 := h.cf (8 * j + 3)
  have h4 := h.cf (8 * j + 4); have h5 := h.cf (8 * j + 5); have h6 := h.cf (8 * j + 6); have h7 := h.cf (8 * j + 7)
  unfold byteOf
  omega
theorem isB_pk {l : List Nat} (h : Is01 l) : IsB (pk l) := by
  intro n hn
  obtain ⟨j, _, rfl⟩ := List.mem_map.1 hn
  have := byteOf_lt h j
  omega
theorem pk_at (l : List Nat) (j : Nat) : (pk l)[j]?.getD 0 = (byteOf l j : Int) := by
  by_cases h : j < (l.length + 7) / 8
  · simp [pk, h]
  · rw [List.getElem?_eq_none (by rw [length_pk]; omega)]
    have e : ∀ k, cf l (8 * j + k) = 0 := fun k => cf_big _ _ (by omega)
    unfold byteOf
    have e0 : cf l (8 * j) = 0 := e 0
    rw [e0, e 1, e 2, e 3, e 4, e 5, e 6, e 7]
    rfl
theorem bitAt_byteOf {l : List Nat} (h : Is01 l) (j k : Nat) (hk : k < 8) : bitAt (byteOf l j : Int) k = cf l (8 * j + k) := by
  have h0 := h.cf (8 * j); have h1 := h.cf (8 * j + 1); have h2 := h.cf (8 * j + 2); have h3 := h.cf (8 * j + 3)
  have h4 := h.cf (8 * j + 4); have h5 := h.cf (8 * j + 5); have h6 := h.cf (8 * j + 6); have h7 := h.cf (8 * j + 7)
  unfold bitAt byteOf
  rcases (show k = 0 ∨ k = 1 ∨ k = 2 ∨ k = 3 ∨ k = 4 ∨ k = 5 ∨ k = 6 ∨ k = 7 by omega) with rfl | rfl | rfl | rfl | rfl | rfl | rfl | rfl
  all_goals
    try simp only [Nat.add_zero]
    omega
theorem bitI_pk {l : List Nat} (h : Is01 l) (i : Nat) : bitI (pk l) i = cf l i := by
  unfold bitI
  rw [pk_at, bitAt_byteOf h _ _ (by omega), show 8 * (i / 8) + i % 8 = i from by omega]
theorem bts_pk {l : List Nat} (h : Is01 l) : Eqv (bts (pk l)) l := fun i => by rw [cf_bts, bitI_pk h]; rfl
/-- Normal bytes. -/
def nb (l : List Nat) : List Int := pk (norm l)
theorem isB_nb {l : List Nat} (h : Is01 l) : IsB (nb l) := isB_pk (is01_norm h)
theorem bts_nb {l : List Nat} (h : Is01 l) : Eqv (bts (nb l)) l := (bts_pk (is01_norm h)).trans (norm_eqv l)
theorem nb_ext {l l' : List Nat} (h : Eqv l l') : nb l = nb l' := by unfold nb; rw [norm_ext h]
theorem nb_inj {l l' : List Nat} (h : Is01 l) (h' : Is01 l') (e : nb l = nb l') : Eqv l l' := (bts_nb h).symm.trans (by rw [e]; exact bts_nb h')
theorem norm_bts_nb {l : List Nat} (h : Is01 l) : norm (bts (nb l)) = norm l := norm_ext (bts_nb h)
theorem length_nb (l : List Nat) : (nb l).length = ((norm l).length + 7) / 8 := length_pk _
theorem nb_nil_iff (l : List Nat) : nb l = [] ↔ norm l = [] := by
  rw [← List.length_eq_zero_iff, length_nb, ← List.length_eq_zero_iff (l := norm l)]
  omega
theorem nb_norm (l : List Nat) : nb (norm l) = nb l := by unfold nb; rw [norm_norm]
/-- Bytes whose last is not 0 are normal. -/
theorem nb_of_last {z : List Int} (h : IsB z) (hl : z = [] ∨ z[z.length - 1]?.getD 0 ≠ 0) : nb (bts z) = z := by
  have hlen : ((norm (bts z)).length + 7) / 8 = z.length := by
    have hle := norm_length_le (bts z)
    rw [length_bts] at hle
    rcases hl with rfl | hl
    · simp at hle ⊢
      rw [hle]
      decide
    · have hz : 0 < z.length := by
        rcases Nat.eq_zero_or_pos z.length with h0 | h0
        · rw [List.length_eq_zero_iff.1 h0] at hl; exact absurd rfl hl
        · exact h0
      have hnot : ¬ (norm (bts z)).length ≤ 8 * (z.length - 1) := by
        intro hc
        apply hl
        have hi := h.idx (z.length - 1)
        refine byte_ext _ 0 hi.1 hi.2 (by decide) (by decide) fun k hk => ?_
        have e : bitI z (8 * (z.length - 1) + k) = 0 := by rw [← cf_bts_int, norm_above _ _ (by omega)]; rfl
        unfold bitI at e
        rw [show (8 * (z.length - 1) + k) / 8 = z.length - 1 from by omega, show (8 * (z.length - 1) + k) % 8 = k from by omega] at e
        rw [e]
        unfold bitAt
        simp
      omega
  refine bytes_ext (isB_nb (is01_bts z)) h (by rw [length_nb]; exact hlen) fun i _ => ?_
  rw [← cf_bts_int, bts_nb (is01_bts z) i, cf_bts_int]

/-- r is the rest of p by q, polynomials over two elements. -/
structure IsMod (p q r : List Nat) : Prop where
  hr : Is01 r
  back : ∃ a, Is01 a ∧ Eqv (addL (mulL q a) r) p
  short : (norm r).length < (norm q).length
theorem IsMod.unique {p q r r' : List Nat} (hq : Is01 q) (h : IsMod p q r) (h' : IsMod p q r') : Eqv r r' := by
  obtain ⟨a, ha, e⟩ := h.back
  obtain ⟨a', ha', e'⟩ := h'.back
  exact (div_unique q a r a' r' hq.isP ha.isP ha'.isP (e.trans e'.symm) h.short h'.short).2
theorem IsMod.eqv {p p' q q' r r' : List Nat} (h : IsMod p q r) (hp : Eqv p p') (hq : Eqv q q') (h1 : Is01 q) (h2 : Is01 q') (hr : Eqv r r') (hr' : Is01 r') : IsMod p' q' r' := by
  obtain ⟨a, ha, e⟩ := h.back
  refine ⟨hr', ⟨a, ha, ?_⟩, ?_⟩
  · exact (eqv_addL (mulL_left a h2.isP h1.isP ha.isP hq.symm) hr.symm).trans (e.trans hp)
  · rw [← norm_ext hr, ← norm_ext hq]; exact h.short
theorem IsMod.add {p q r u v : List Nat} (h : IsMod p r u) (k : IsMod q r v) : IsMod (addL p q) r (addL u v) := by
  obtain ⟨a, ha, e⟩ := h.back
  obtain ⟨b, hb, f⟩ := k.back
  refine ⟨is01_addL h.hr k.hr, ⟨addL a b, is01_addL ha hb, ?_⟩, ?_⟩
  · exact (eqv_addL (mulL_add_right r a b) (Eqv.refl _)).trans ((addL_mid _ _ _ _).trans (eqv_addL e f))
  · have hs := h.short
    have ks := k.short
    have : (norm (addL u v)).length ≤ (norm r).length - 1 := norm_len_le _ _ fun i hi => by
      rw [cf_addL, norm_above u i (by omega), norm_above v i (by omega)]; rfl
    omega
theorem IsMod.prod {p r : List Nat} (hp : Is01 p) (hr : Is01 r) (hn : norm r ≠ []) : IsMod (mulL p r) r [] :=
  ⟨fun x hx => absurd hx (by simp), ⟨p, hp, (addL_nil _).trans (mulL_comm r p hr.isP hp.isP)⟩, by
    show 0 < _
    exact List.length_pos_iff.2 hn⟩

/-! Roots. -/
theorem isP_lin1 {r : Nat} (hr : r < 8192) : IsP [r, 1] := by
  intro x hx
  simp at hx
  rcases hx with rfl | rfl
  · exact hr
  · decide
theorem norm_lin1 (r : Nat) : norm [r, 1] = [r, 1] := norm_of_last _ (.inr (by show (1 : Nat) ≠ 0; decide))
theorem evl_lin1 (r x : Nat) (hx : x < 8192) : evl [r, 1] x = r ^^^ x := by
  show r ^^^ gmul x (1 ^^^ gmul x 0) = _
  rw [gmul_zero, Nat.xor_zero, gmul_one x hx]
/-- The quotient by x less r. -/
def sdiv (r : Nat) : List Nat → List Nat
  | [] => []
  | _ :: p => evl p r :: sdiv r p
theorem isP_sdiv {r : Nat} {p : List Nat} (hr : r < 8192) (hp : IsP p) : IsP (sdiv r p) := by
  induction p with
  | nil => exact hp
  | cons c p ih =>
    intro x hx
    rcases List.mem_cons.1 hx with rfl | hx
    · exact evl_lt (isP_cons hp).2 r hr
    · exact ih (isP_cons hp).2 x hx
theorem cf_lin_mul (r : Nat) (s : List Nat) (i : Nat) (hs : IsP s) : cf (mulL [r, 1] s) i = gmul r (cf s i) ^^^ cf (0 :: s) i := by
  show cf (addL (smul r s) (0 :: addL (smul 1 s) [0])) i = _
  rw [cf_addL, cf_smul]
  congr 1
  cases i with
  | zero => rfl
  | succ i =>
    rw [cf_succ, cf_succ, cf_addL, cf_smul, one_gmul _ (cf_lt hs i)]
    cases i with
    | zero => rw [cf_zero, Nat.xor_zero]
    | succ i => rw [cf_succ 0, cf_nil, Nat.xor_zero]
theorem sdiv_back {r : Nat} {p : List Nat} (hr : r < 8192) (hp : IsP p) : Eqv (addL (mulL [r, 1] (sdiv r p)) [evl p r]) p := by
  induction p with
  | nil =>
    intro i
    rw [cf_addL, cf_lin_mul r _ i (fun x hx => absurd hx (by simp [sdiv]))]
    show gmul r 0 ^^^ cf [0] i ^^^ cf [0] i = 0
    rw [gmul_zero, Nat.zero_xor, Nat.xor_self]
  | cons c p ih =>
    obtain ⟨hc, hp'⟩ := isP_cons hp
    have hv := evl_lt hp' r hr
    have hs := isP_sdiv hr hp'
    have ih := ih hp'
    have hs2 := isP_sdiv hr hp
    intro i
    rw [cf_addL, cf_lin_mul r _ i hs2]
    show gmul r (cf (evl p r :: sdiv r p) i) ^^^ cf (0 :: evl p r :: sdiv r p) i ^^^ cf [c ^^^ gmul r (evl p r)] i = _
    cases i with
    | zero =>
      rw [cf_zero, cf_zero, cf_zero, cf_zero, Nat.xor_zero]
      generalize gmul r (evl p r) = g
      rw [Nat.xor_comm c g, ← Nat.xor_assoc, Nat.xor_self, Nat.zero_xor]
    | succ i =>
      rw [cf_succ, cf_succ, cf_succ, cf_succ, cf_nil, Nat.xor_zero]
      have := ih i
      rw [cf_addL, cf_lin_mul r _ i hs] at this
      rw [← this, Nat.xor_assoc]
      congr 1
      cases i with
      | zero => rw [cf_zero, cf_zero, cf_zero, Nat.zero_xor]
      | succ i => rw [cf_succ, cf_succ, cf_succ, cf_nil, Nat.xor_zero]
/-- A polynomial that is not 0 has fewer roots than coefficients. -/
theorem roots_lt (rs : List Nat) : ∀ (p : List Nat), IsP p → norm p ≠ [] → rs.Nodup → (∀ r ∈ rs, r < 8192 ∧ evl p r = 0) → rs.length < (norm p).length := by
  induction rs with
  | nil => intro p _ hn _ _; exact List.length_pos_iff.2 hn
  | cons r rs ih =>
    intro p hp hn hnd hroot
    obtain ⟨hr, hv⟩ := hroot r (List.mem_cons_self)
    have hback := sdiv_back hr hp
    rw [hv] at hback
    have hs := isP_sdiv hr hp
    have hb : Eqv (mulL [r, 1] (sdiv r p)) p := fun i => by
      have := hback i
      rw [cf_addL] at this
      rw [← this]
      cases i with
      | zero => rw [cf_zero, Nat.xor_zero]
      | succ i => rw [cf_succ 0, cf_nil, Nat.xor_zero]
    have hsn : norm (sdiv r p) ≠ [] := by
      intro e
      apply hn
      rw [← norm_ext hb]
      have e2 : Eqv (sdiv r p) [] := fun i => (norm_nil_iff _).1 e i
      rw [norm_ext ((mulL_right [r, 1] e2).trans (mulL_nil _))]
      rfl
    have hlen := mulL_length [r, 1] (sdiv r p) (isP_lin1 hr) hs (by rw [norm_lin1]; simp) hsn
    rw [norm_ext hb, norm_lin1] at hlen
    obtain ⟨hnr, hnd'⟩ := List.nodup_cons.1 hnd
    have := ih (sdiv r p) hs hsn hnd' fun r' hr' => by
      obtain ⟨hlt', hv'⟩ := hroot r' (List.mem_cons_of_mem _ hr')
      refine ⟨hlt', ?_⟩
      rw [← evl_eqv r' hb, evl_mul _ _ r' (isP_lin1 hr) hs hlt', evl_lin1 r r' hlt'] at hv'
      rcases Decidable.em (evl (sdiv r p) r' = 0) with h0 | h0
      · exact h0
      · exfalso
        refine gmul_ne_zero _ _ (xor_lt r r' hr hlt') (evl_lt hs r' hlt') (fun e => ?_) h0 hv'
        have := xor_zero_eq e
        subst this
        exact hnr hr'
    simp at hlen ⊢
    omega

/-! Conjugates. -/
theorem evl_sq {p : List Nat} (h : Is01 p) (x : Nat) (hx : x < 8192) : evl p (gmul x x) = gmul (evl p x) (evl p x) := by
  induction p with
  | nil => show 0 = gmul 0 0; rw [gmul_zero]
  | cons c p ih =>
    obtain ⟨hc, hp⟩ := is01_cons h
    have he := evl_lt hp.isP x hx
    show c ^^^ gmul (gmul x x) (evl p (gmul x x)) = gmul (c ^^^ gmul x (evl p x)) (c ^^^ gmul x (evl p x))
    rw [ih hp, gsq_xor _ _ (by omega) (gmul_lt x _ hx), gmul_01 hc hc, show c * c = c from by rcases (show c = 0 ∨ c = 1 by omega) with rfl | rfl <;> rfl]
    congr 1
    generalize evl p x = e at *
    rw [gmul_assoc x x _ hx hx (gmul_lt e e he), gmul_assoc x e _ hx he (gmul_lt x e hx), ← gmul_assoc e x e he hx he, gmul_comm e x he hx, gmul_assoc x e e hx he he]
theorem evl_sqN {p : List Nat} (h : Is01 p) (x : Nat) (hx : x < 8192) (h0 : evl p x = 0) (k : Nat) : evl p (sqN x k) = 0 := by
  induction k with
  | zero => exact h0
  | succ k ih =>
    show evl p (gmul (sqN x k) (sqN x k)) = 0
    rw [evl_sq h _ (sqN_lt x k hx), ih, gmul_zero]
theorem gpow_eq_one {x n : Nat} (hx : x < 8192) (h0 : x ≠ 0) (hn : n ≠ 0) (hn' : n < 8191) (h : gpow x n = 1) : x = 1 := by
  have hg := fin_of (P := fun r => r ≠ 0 → r < 8191 → Nat.gcd r 8191 = 1) gcd_fin n (by omega) hn hn'
  have := gpow_gcd x hx n 8191 h (gpow_8191 x hx h0)
  rwa [hg, gpow_one x hx] at this
theorem sqN_ne {x i j : Nat} (hx : x < 8192) (h0 : x ≠ 0) (h1 : x ≠ 1) (hij : i < j) (hj : j < 13) : sqN x i ≠ sqN x j := by
  intro h
  rw [sqN_gpow x i hx, sqN_gpow x j hx] at h
  have hlt : 2 ^ i < 2 ^ j := Nat.pow_lt_pow_right (by decide) hij
  have hle : 2 ^ j ≤ 2 ^ 12 := Nat.pow_le_pow_right (by decide) (by omega)
  have hpos : 0 < 2 ^ i := Nat.two_pow_pos i
  have e12 : (2 : Nat) ^ 12 = 4096 := by decide
  have e : gpow x (2 ^ j) = gmul (gpow x (2 ^ i)) (gpow x (2 ^ j - 2 ^ i)) := by rw [← gpow_add x _ _ hx, show 2 ^ i + (2 ^ j - 2 ^ i) = 2 ^ j from by omega]
  have hl := gpow_lt x (2 ^ i) hx
  have hn := gpow_ne_zero x (2 ^ i) hx h0
  rw [← h] at e
  have h1' : gmul (ginv (gpow x (2 ^ i))) (gpow x (2 ^ i)) = 1 := by
    rw [gmul_comm _ _ (ginv_lt _ hl) hl]; exact gmul_ginv _ hl hn
  have e2 := congrArg (gmul (ginv (gpow x (2 ^ i)))) e
  rw [← gmul_assoc _ _ _ (ginv_lt _ hl) hl (gpow_lt x _ hx), h1', one_gmul _ (gpow_lt x _ hx)] at e2
  exact h1 (gpow_eq_one hx h0 (by omega) (by omega) e2.symm)
/-- No polynomial of a lower degree than 13, but 0, has the value 0 at an element that is neither 0 nor 1. -/
theorem least {p : List Nat} {x : Nat} (hp : Is01 p) (hn : norm p ≠ []) (hx : x < 8192) (h0 : x ≠ 0) (h1 : x ≠ 1) (hv : evl p x = 0) : 13 < (norm p).length := by
  have hnd : ((List.range 13).map (sqN x)).Nodup := by
    rw [List.Nodup, List.pairwise_map]
    refine List.Pairwise.imp_of_mem ?_ (List.pairwise_lt_range (n := 13))
    intro i j _ hj hlt he
    exact sqN_ne hx h0 h1 hlt (List.mem_range.1 hj) he
  have := roots_lt _ p hp.isP hn hnd fun r hr => by
    obtain ⟨k, _, rfl⟩ := List.mem_map.1 hr
    exact ⟨sqN_lt x k hx, evl_sqN hp x hx hv k⟩
  simpa using this

/-! The least polynomial. -/
/-- The first k digits of n. -/
def nbits (n k : Nat) : List Nat := (List.range k).map fun i => n / 2 ^ i % 2
theorem cf_nbits (n k i : Nat) (h : i < k) : cf (nbits n k) i = n / 2 ^ i % 2 := by simp [cf, nbits, h]
theorem length_nbits (n k : Nat) : (nbits n k).length = k := by simp [nbits]
theorem is01_nbits (n k : Nat) : Is01 (nbits n k) := by
  intro x hx
  obtain ⟨i, _, rfl⟩ := List.mem_map.1 hx
  omega
theorem nbits_inj (n m k : Nat) (hn : n < 2 ^ k) (hm : m < 2 ^ k) (h : ∀ i, cf (nbits n k) i = cf (nbits m k) i) : n = m := by
  apply Nat.eq_of_testBit_eq
  intro i
  by_cases hi : i < k
  · have := h i
    rw [cf_nbits _ _ _ hi, cf_nbits _ _ _ hi] at this
    simp only [Nat.testBit_eq_decide_div_mod_eq, this]
  · have hk : 2 ^ k ≤ 2 ^ i := Nat.pow_le_pow_right (by decide) (by omega)
    rw [Nat.testBit_lt_two_pow (by omega), Nat.testBit_lt_two_pow (by omega)]
theorem dependent (x : Nat) (hx : x < 8192) : ∃ p, Is01 p ∧ p.length ≤ 14 ∧ norm p ≠ [] ∧ evl p x = 0 := by
  have hnot : ¬ ∀ i j, i < 16384 → j < 16384 → evl (nbits i 14) x = evl (nbits j 14) x → i = j := by
    intro hinj
    have hnd : ((List.range 16384).map fun n => evl (nbits n 14) x).Nodup := by
      rw [List.Nodup, List.pairwise_map]
      refine List.Pairwise.imp_of_mem ?_ (List.nodup_range (n := 16384))
      intro i j hi hj hne he
      exact hne (hinj i j (List.mem_range.1 hi) (List.mem_range.1 hj) he)
    have := nodup_le 8192 _ hnd fun v hv => by
      obtain ⟨n, _, rfl⟩ := List.mem_map.1 hv
      exact evl_lt (is01_nbits n 14).isP x hx
    simp at this
  rcases Classical.em (∃ p, Is01 p ∧ p.length ≤ 14 ∧ norm p ≠ [] ∧ evl p x = 0) with h | h
  · exact h
  · exfalso
    apply hnot
    intro i j hi hj he
    rcases Decidable.em (i = j) with e | e
    · exact e
    · exfalso
      apply h
      refine ⟨addL (nbits i 14) (nbits j 14), is01_addL (is01_nbits _ _) (is01_nbits _ _), ?_, ?_, ?_⟩
      · have : ∀ p q : List Nat, p.length = q.length → (addL p q).length = p.length := by
          intro p
          induction p with
          | nil => intro q h; cases q with
            | nil => rfl
            | cons y q => simp at h
          | cons a p ih => intro q h; cases q with
            | nil => simp at h
            | cons y q => show (addL p q).length + 1 = _; rw [ih q (by simpa using h)]; rfl
        rw [this _ _ (by rw [length_nbits, length_nbits]), length_nbits]
        exact Nat.le_refl _
      · intro hz
        apply e
        refine nbits_inj i j 14 hi hj fun k => ?_
        have := (norm_nil_iff _).1 hz k
        rw [cf_addL] at this
        exact xor_zero_eq this
      · rw [evl_add, he, Nat.xor_self]
/-- m is the least polynomial of x. -/
structure IsMin (x : Nat) (m : List Nat) : Prop where
  h01 : Is01 m
  nm : norm m = m
  len : m.length = if x = 1 then 2 else 14
  val : evl m x = 0
theorem min_exists (x : Nat) (hx : x < 8192) (h0 : x ≠ 0) (h1 : x ≠ 1) : ∃ p, IsMin x p := by
  obtain ⟨p, hp, hl, hn, hv⟩ := dependent x hx
  refine ⟨norm p, is01_norm hp, norm_norm p, ?_, by rw [evl_eqv x (norm_eqv p)]; exact hv⟩
  have := least hp hn hx h0 h1 hv
  have := norm_length_le p
  rw [if_neg h1]
  omega
theorem is01_last {m : List Nat} {n : Nat} (h : Is01 m) (hn : norm m = m) (hl : m.length = n + 1) : cf m n = 1 := by
  have h1 := norm_last m (by rw [hn]; intro e; rw [e] at hl; simp at hl)
  rw [hn, hl, show n + 1 - 1 = n from rfl] at h1
  have := h.cf n
  omega
theorem min_unique {x : Nat} {m m' : List Nat} (hx : x < 8192) (h0 : x ≠ 0) (h : IsMin x m) (h' : IsMin x m') : m = m' := by
  rw [← h.nm, ← h'.nm]
  apply norm_ext
  have hs := is01_addL h.h01 h'.h01
  have hv : evl (addL m m') x = 0 := by rw [evl_add, h.val, h'.val]; rfl
  have hz : norm (addL m m') = [] := by
    by_cases h1 : x = 1
    · subst h1
      have l1 := h.len
      have l2 := h'.len
      rw [if_pos rfl] at l1 l2
      have c1 := is01_last h.h01 h.nm l1
      have c2 := is01_last h'.h01 h'.nm l2
      have hle : (norm (addL m m')).length ≤ 1 := norm_len_le _ _ fun i hi => by
        rw [cf_addL]
        rcases (show i = 1 ∨ 2 ≤ i by omega) with rfl | h2
        · rw [c1, c2]; rfl
        · rw [cf_big m i (by omega), cf_big m' i (by omega)]; rfl
      rcases Decidable.em (norm (addL m m') = []) with e | e
      · exact e
      · exfalso
        have hd := roots_lt [1] _ hs.isP e (by simp) (by intro r hr; simp at hr; subst hr; exact ⟨by decide, hv⟩)
        simp at hd
        omega
    · have l1 := h.len
      have l2 := h'.len
      rw [if_neg h1] at l1 l2
      have c1 := is01_last h.h01 h.nm l1
      have c2 := is01_last h'.h01 h'.nm l2
      have hle : (norm (addL m m')).length ≤ 13 := norm_len_le _ _ fun i hi => by
        rw [cf_addL]
        rcases (show i = 13 ∨ 14 ≤ i by omega) with rfl | h2
        · rw [c1, c2]; rfl
        · rw [cf_big m i (by omega), cf_big m' i (by omega)]; rfl
      rcases Decidable.em (norm (addL m m') = []) with e | e
      · exact e
      · exfalso
        have := least hs e hx h0 h1 hv
        omega
  exact fun i => by
    have := (norm_nil_iff _).1 hz i
    rw [cf_addL] at this
    exact xor_zero_eq this
/-- The least polynomial of an element (but 0), found. -/
def minp (x : Nat) : List Nat := if x ≤ 1 then [1, 1] else (((List.range 16384).map fun n => nbits n 14).find? fun p => decide (norm p = p ∧ p.length = 14 ∧ evl p x = 0)).getD [1, 1]
theorem nbits_of {p : List Nat} {k : Nat} (h : Is01 p) (hl : p.length = k) : ∃ n, n < 2 ^ k ∧ nbits n k = p := by
  induction k generalizing p with
  | zero => exact ⟨0, by decide, by rw [List.length_eq_zero_iff.1 hl]; rfl⟩
  | succ k ih =>
    cases p with
    | nil => simp at hl
    | cons c p =>
      obtain ⟨hc, hp⟩ := is01_cons h
      obtain ⟨n, hn, e⟩ := ih hp (by simpa using hl)
      refine ⟨2 * n + c, by rw [Nat.pow_succ]; omega, ?_⟩
      rw [← e]
      unfold nbits
      rw [List.range_succ_eq_map, List.map_cons, List.map_map]
      congr 1
      · simp; omega
      · apply List.map_congr_left
        intro i _
        show (2 * n + c) / 2 ^ (i + 1) % 2 = n / 2 ^ i % 2
        rw [Nat.pow_succ, Nat.mul_comm (2 ^ i) 2, ← Nat.div_div_eq_div_mul, show (2 * n + c) / 2 = n from by omega]
theorem minp_is (x : Nat) (hx : x < 8192) (h0 : x ≠ 0) : IsMin x (minp x) := by
  by_cases h1 : x = 1
  · subst h1
    have e : minp 1 = [1, 1] := rfl
    rw [e]
    exact ⟨is01_all _ (by decide), by decide, rfl, by decide +kernel⟩
  · obtain ⟨p, hp⟩ := min_exists x hx h0 h1
    have hl := hp.len
    rw [if_neg h1] at hl
    obtain ⟨n, hn, e⟩ := nbits_of hp.h01 hl
    have hsome : ((((List.range 16384).map fun n => nbits n 14).find? fun p => decide (norm p = p ∧ p.length = 14 ∧ evl p x = 0))).isSome := by
      rw [List.find?_isSome]
      refine ⟨p, ?_, by simpa using ⟨hp.nm, hl, hp.val⟩⟩
      exact List.mem_map.2 ⟨n, List.mem_range.2 hn, e⟩
    obtain ⟨q, hq⟩ := Option.isSome_iff_exists.1 hsome
    have e2 : minp x = q := by unfold minp; rw [if_neg (by omega), hq]; rfl
    have hq1 := List.find?_some hq
    have hq2 := List.mem_of_find?_eq_some hq
    obtain ⟨m, _, rfl⟩ := List.mem_map.1 hq2
    have hq3 : norm (nbits m 14) = nbits m 14 ∧ (nbits m 14).length = 14 ∧ evl (nbits m 14) x = 0 := by simpa using hq1
    rw [e2]
    exact ⟨is01_nbits m 14, hq3.1, by rw [if_neg h1]; exact hq3.2.1, hq3.2.2⟩
theorem minp_eq {x : Nat} {m : List Nat} (hx : x < 8192) (h0 : x ≠ 0) (h : IsMin x m) : minp x = m := min_unique hx h0 (minp_is x hx h0) h
theorem minp_two : minp 2 = [1, 1, 0, 1, 1, 0, 0, 0, 0, 0, 0, 0, 0, 1] :=
  minp_eq (by decide) (by decide) ⟨is01_all _ (by decide), by decide, rfl, by decide +kernel⟩
/-- Doubled powers have the same one. -/
theorem minp_sq (x : Nat) (hx : x < 8192) (h0 : x ≠ 0) : minp (gmul x x) = minp x := by
  have h := minp_is x hx h0
  by_cases h1 : x = 1
  · subst h1
    rw [show gmul 1 1 = 1 from by decide]
  · have hl := h.len
    rw [if_neg h1] at hl
    refine minp_eq (gmul_lt x x hx) (gmul_ne_zero x x hx hx h0 h0) ⟨h.h01, h.nm, ?_, by rw [evl_sq h.h01 x hx, h.val, gmul_zero]⟩
    rw [if_neg ?_]
    · exact hl
    · intro e
      apply h1
      refine gpow_eq_one (n := 2) hx h0 (by decide) (by decide) ?_
      show gmul (gpow x 1) x = 1
      rw [gpow_one x hx]
      exact e

/-! Generators. -/
def genTo : Nat → List Nat
  | 0 => [1]
  | k + 1 => norm (mulL (genTo k) (minp (gpow 2 (2 * k + 1))))
theorem pow2_ok (i : Nat) : gpow 2 i < 8192 ∧ gpow 2 i ≠ 0 := ⟨gpow_lt 2 i (by decide), gpow_ne_zero 2 i (by decide) (by decide)⟩
theorem is01_genTo (k : Nat) : Is01 (genTo k) := by
  induction k with
  | zero => exact is01_all _ (by decide)
  | succ k ih => exact is01_norm (is01_mulL ih (minp_is _ (pow2_ok _).1 (pow2_ok _).2).h01)
theorem norm_genTo (k : Nat) : norm (genTo k) = genTo k := by
  cases k with
  | zero => show norm [1] = [1]; decide
  | succ k => exact norm_norm _
theorem pow2_ne_one (i : Nat) (h0 : i ≠ 0) (hi : i < 8191) : gpow 2 i ≠ 1 := two_order i h0 hi
theorem length_genTo (k : Nat) (hk : k ≤ 8) : (genTo k).length = 13 * k + 1 := by
  induction k with
  | zero => rfl
  | succ k ih =>
    have ih := ih (by omega)
    have hm := minp_is (gpow 2 (2 * k + 1)) (pow2_ok _).1 (pow2_ok _).2
    have hl := hm.len
    rw [if_neg (pow2_ne_one _ (by omega) (by omega))] at hl
    have := mulL_length (genTo k) (minp (gpow 2 (2 * k + 1))) (is01_genTo k).isP hm.h01.isP (by rw [norm_genTo]; intro e; rw [e] at ih; simp at ih) (by rw [hm.nm]; intro e; rw [e] at hl; simp at hl)
    rw [norm_genTo, hm.nm, ih, hl] at this
    show (norm (mulL (genTo k) (minp (gpow 2 (2 * k + 1))))).length = _
    rw [this]
    omega
theorem evl_genTo (k y : Nat) (hy : y < 8192) : evl (genTo (k + 1)) y = gmul (evl (genTo k) y) (evl (minp (gpow 2 (2 * k + 1))) y) := by
  have hm := minp_is (gpow 2 (2 * k + 1)) (pow2_ok _).1 (pow2_ok _).2
  show evl (norm (mulL (genTo k) (minp (gpow 2 (2 * k + 1))))) y = _
  rw [evl_eqv y (norm_eqv _), evl_mul _ _ y (is01_genTo k).isP hm.h01.isP hy]
theorem evl_genTo_odd (t k : Nat) (h : k < t) : evl (genTo t) (gpow 2 (2 * k + 1)) = 0 := by
  induction t with
  | zero => omega
  | succ t ih =>
    have hy := (pow2_ok (2 * k + 1)).1
    rw [evl_genTo t _ hy]
    by_cases e : k = t
    · subst e
      rw [(minp_is (gpow 2 (2 * k + 1)) (pow2_ok _).1 (pow2_ok _).2).val, gmul_zero]
    · rw [ih (by omega), zero_gmul _ (evl_lt (minp_is (gpow 2 (2 * t + 1)) (pow2_ok _).1 (pow2_ok _).2).h01.isP _ hy)]
/-- The values at w's powers 1 to 2t are 0. -/
theorem evl_gen (t i : Nat) (h0 : 0 < i) (hi : i ≤ 2 * t) : evl (genTo t) (gpow 2 i) = 0 := by
  induction i using Nat.strongRecOn with
  | _ i ih =>
    by_cases hodd : i % 2 = 1
    · have := evl_genTo_odd t (i / 2) (by omega)
      rwa [show 2 * (i / 2) + 1 = i from by omega] at this
    · have h := ih (i / 2) (by omega) (by omega) (by omega)
      have e : gpow 2 i = gmul (gpow 2 (i / 2)) (gpow 2 (i / 2)) := by rw [← gpow_add 2 _ _ (by decide), show i / 2 + i / 2 = i from by omega]
      rw [e, evl_sq (is01_genTo t) _ (pow2_ok _).1, h, gmul_zero]

end Go.Proofs.Ytjiaomkjebbkpab
