/-
  Words of layer 5: data and more bits as one polynomial; code words; how far words are apart; one code word at most is near; the more bytes of data are one row.
-/
import Derived.Test.YtjiaomkjebbkpabBchPlain
namespace Go.Proofs.Ytjiaomkjebbkpab
set_option linter.unusedVariables false

/-- The first n coefficients. -/
def padB (n : Nat) (p : List Nat) : List Nat := (List.range n).map (cf p)
theorem length_padB (n : Nat) (p : List Nat) : (padB n p).length = n := by simp [padB]
theorem cf_padB (n : Nat) (p : List Nat) (i : Nat) : cf (padB n p) i = if i < n then cf p i else 0 := by
  by_cases h : i < n
  · rw [if_pos h]; simp [cf, padB, h]
  · rw [if_neg h, cf_big _ _ (by rw [length_padB]; omega)]
theorem is01_padB {p : List Nat} (n : Nat) (h : Is01 p) : Is01 (padB n p) := is01_of fun i => by
  rw [cf_padB]
  split
  · exact h.cf i
  · decide
/-- The word of data and more bytes. -/
def wordL (t : Nat) (x m : List Int) : List Nat := padB (13 * t) (bts m) ++ bts x
theorem length_wordL (t : Nat) (x m : List Int) : (wordL t x m).length = 13 * t + 8 * x.length := by simp [wordL, length_padB, length_bts]
theorem cf_append (p q : List Nat) (i : Nat) : cf (p ++ q) i = if i < p.length then cf p i else cf q (i - p.length) := by
  unfold cf
  by_cases h : i < p.length
  · rw [if_pos h, List.getElem?_append_left h]
  · rw [if_neg h, List.getElem?_append_right (by omega)]
theorem cf_wordL (t : Nat) (x m : List Int) (i : Nat) : cf (wordL t x m) i = if i < 13 * t then cf (bts m) i else cf (bts x) (i - 13 * t) := by
  unfold wordL
  rw [cf_append, length_padB]
  split
  · rename_i h; rw [cf_padB, if_pos h]
  · rfl
theorem is01_append {p q : List Nat} (hp : Is01 p) (hq : Is01 q) : Is01 (p ++ q) := fun x hx => by
  rcases List.mem_append.1 hx with h | h
  · exact hp x h
  · exact hq x h
theorem is01_wordL (t : Nat) (x m : List Int) : Is01 (wordL t x m) := is01_append (is01_padB _ (is01_bts m)) (is01_bts x)
/-- A code word: all sums are 0. -/
def code (t : Nat) (p : List Nat) : Prop := ∀ i, 1 ≤ i → i ≤ 2 * t → evl p (gpow 2 i) = 0
theorem code_add {t : Nat} {p q : List Nat} (hp : code t p) (hq : code t q) : code t (addL p q) := fun i h1 h2 => by rw [evl_add, hp i h1 h2, hq i h1 h2]; rfl
theorem code_eqv {t : Nat} {p q : List Nat} (h : Eqv p q) (hp : code t p) : code t q := fun i h1 h2 => by rw [← evl_eqv _ h]; exact hp i h1 h2

/-- In how many of the first n places two are unlike. -/
def distTo (p q : List Nat) : Nat → Nat
  | 0 => 0
  | n + 1 => distTo p q n + (if cf p n = cf q n then 0 else 1)
theorem dist_tri (p q r : List Nat) (n : Nat) : distTo q r n ≤ distTo p q n + distTo p r n := by
  induction n with
  | zero => exact Nat.le_refl _
  | succ n ih =>
    simp only [distTo]
    by_cases h1 : cf p n = cf q n <;> by_cases h2 : cf p n = cf r n
    · rw [if_pos (by omega), if_pos h1, if_pos h2]; omega
    · rw [if_pos h1, if_neg h2]; split <;> omega
    · rw [if_neg h1, if_pos h2]; split <;> omega
    · rw [if_neg h1, if_neg h2]; split <;> omega
theorem dist_comm (p q : List Nat) (n : Nat) : distTo p q n = distTo q p n := by
  induction n with
  | zero => rfl
  | succ n ih => simp only [distTo]; rw [ih]; congr 1; by_cases h : cf p n = cf q n <;> simp [h, eq_comm]
theorem dist_le (p q : List Nat) (n : Nat) : distTo p q n ≤ n := by
  induction n with
  | zero => exact Nat.le_refl _
  | succ n ih => simp only [distTo]; split <;> omega
theorem dist_supp {p q : List Nat} (hp : Is01 p) (hq : Is01 q) (hl : p.length = q.length) : (supp (addL p q)).length = distTo p q p.length := by
  have hal : (addL p q).length = p.length := by rw [length_addL, ← hl]; omega
  unfold supp
  rw [hal]
  have key : ∀ n, ((List.range n).filter fun i => cf (addL p q) i == 1).length = distTo p q n := by
    intro n
    induction n with
    | zero => rfl
    | succ n ih =>
      rw [List.range_succ, List.filter_append, List.length_append, ih]
      simp only [distTo]
      congr 1
      have h1 := hp.cf n
      have h2 := hq.cf n
      have e : cf (addL p q) n = if cf p n = cf q n then 0 else 1 := by
        rw [cf_addL, xor_01 h1 h2]
        split <;> omega
      simp only [List.filter, e]
      split <;> simp_all
  exact key _
theorem dist_zero {p q : List Nat} {n : Nat} (h : distTo p q n = 0) : ∀ i, i < n → cf p i = cf q i := by
  induction n with
  | zero => intro i hi; omega
  | succ n ih =>
    simp only [distTo] at h
    intro i hi
    by_cases e : i = n
    · subst e
      rcases Decidable.em (cf p i = cf q i) with h1 | h1
      · exact h1
      · rw [if_neg h1] at h; omega
    · exact ih (by omega) i (by omega)
theorem list_ext {p q : List Nat} (hl : p.length = q.length) (h : ∀ i, i < p.length → cf p i = cf q i) : p = q := by
  apply List.ext_getElem hl
  intro i h1 h2
  have := h i h1
  unfold cf at this
  rw [List.getElem?_eq_getElem h1, List.getElem?_eq_getElem h2] at this
  exact this
/-- Two code words that are not the same are more than 2t apart. -/
theorem code_apart {t : Nat} {p q : List Nat} (hp : Is01 p) (hq : Is01 q) (hl : p.length = q.length) (h8 : p.length ≤ 8191) (cp : code t p) (cq : code t q) (hne : p ≠ q) : 2 * t < distTo p q p.length := by
  have hal : (addL p q).length = p.length := by rw [length_addL, ← hl]; omega
  rw [← dist_supp hp hq hl]
  refine ones_gt (is01_addL hp hq) (by omega) (2 * t) (code_add cp cq) fun e => hne ?_
  have h0 : distTo p q p.length = 0 := by rw [← dist_supp hp hq hl, e]; rfl
  exact list_ext hl (dist_zero h0)
/-- One code word at most is within t of a word. -/
theorem near_unique {t : Nat} {p q r : List Nat} (hq : Is01 q) (hr : Is01 r) (l1 : q.length = p.length) (l2 : r.length = p.length) (h8 : p.length ≤ 8191) (cq : code t q) (cr : code t r)
    (d1 : distTo p q p.length ≤ t) (d2 : distTo p r p.length ≤ t) : q = r := by
  rcases Decidable.em (q = r) with h | h
  · exact h
  · exfalso
    have := code_apart hq hr (by omega) (by omega) cq cr h
    have h3 := dist_tri p q r p.length
    rw [l1] at this
    omega

/-- z are the more bytes of x. -/
structure IsEnc (t : Nat) (x z : List Int) : Prop where
  len : z.length = (13 * t + 7) / 8
  isB : IsB z
  above : ∀ i, 13 * t ≤ i → bitI z i = 0
  cw : code t (wordL t x z)
theorem enc_unique {t : Nat} {x z z' : List Int} (ht : t ≤ 8) (h : IsEnc t x z) (h' : IsEnc t x z') : z = z' := by
  have hs : Is01 (addL (wordL t x z) (wordL t x z')) := is01_addL (is01_wordL t x z) (is01_wordL t x z')
  obtain ⟨a, ha, e⟩ := (code_iff t ht _ hs).1 (code_add h.cw h'.cw)
  have hlow : (norm (addL (wordL t x z) (wordL t x z'))).length ≤ 13 * t := norm_len_le _ _ fun i hi => by
    rw [cf_addL, cf_wordL, cf_wordL, if_neg (by omega), if_neg (by omega), Nat.xor_self]
  have hz : norm (addL (wordL t x z) (wordL t x z')) = [] := by
    rw [← norm_ext e]
    rcases Decidable.em (norm a = []) with hn | hn
    · have : Eqv a [] := fun i => (norm_nil_iff _).1 hn i
      rw [norm_ext ((mulL_right _ this).trans (mulL_nil _))]
      rfl
    · exfalso
      have hg := length_genTo t ht
      have := mulL_length (genTo t) a (is01_genTo t).isP ha.isP (by rw [norm_genTo]; intro e; rw [e] at hg; simp at hg) hn
      rw [norm_ext e, norm_genTo, hg] at this
      have hp := List.length_pos_iff.2 hn
      omega
  refine bytes_ext h.isB h'.isB (by rw [h.len, h'.len]) fun i _ => ?_
  by_cases hi : i < 13 * t
  · have := (norm_nil_iff _).1 hz i
    rw [cf_addL, cf_wordL, cf_wordL, if_pos hi, if_pos hi] at this
    rw [← cf_bts_int, ← cf_bts_int, xor_zero_eq this]
  · rw [h.above i (by omega), h'.above i (by omega)]
/-- The rest by the generator makes the more bytes. -/
theorem enc_of_mod {t : Nat} {x o : List Int} {r : List Nat} (ht : t ≤ 8) (ho : ∀ i, i < 13 * t → cf (bts o) i = 0) (hm : IsMod (wordL t x o) (genTo t) r) : IsEnc t x (pk (padB (13 * t) r)) := by
  have h01 := is01_padB (13 * t) hm.hr
  have hsh := hm.short
  rw [norm_genTo, length_genTo t ht] at hsh
  have hr0 : ∀ i, 13 * t ≤ i → cf r i = 0 := fun i hi => norm_above r i (by omega)
  refine ⟨by rw [length_pk, length_padB], isB_pk h01, fun i hi => ?_, ?_⟩
  · rw [bitI_pk h01, cf_padB, if_neg (by omega)]; rfl
  · obtain ⟨a, ha, e⟩ := hm.back
    have hE : Eqv (wordL t x (pk (padB (13 * t) r))) (mulL (genTo t) a) := fun i => by
      have h1 := e i
      rw [cf_addL, cf_wordL] at h1
      rw [cf_wordL]
      by_cases hi : i < 13 * t
      · rw [if_pos hi] at h1 ⊢
        rw [ho i hi] at h1
        rw [bts_pk h01 i, cf_padB, if_pos hi]
        exact (xor_zero_eq h1).symm
      · rw [if_neg hi] at h1 ⊢
        rw [hr0 i (by omega), Nat.xor_zero] at h1
        exact h1.symm
    exact (code_iff t ht _ (is01_wordL t x _)).2 ⟨a, ha, hE.symm⟩
/-- What Decode tells: a code word within t, and how far it is. -/
structure IsDec (t : Nat) (x m d k : List Int) (n : Nat) : Prop where
  ld : d.length = x.length
  lk : k.length = (13 * t + 7) / 8
  bd : IsB d
  bk : IsB k
  above : ∀ i, 13 * t ≤ i → bitI k i = 0
  cw : code t (wordL t d k)
  far : distTo (wordL t x m) (wordL t d k) (13 * t + 8 * x.length) = n
  near : n ≤ t
theorem word_inj {t : Nat} {x m x' m' : List Int} (hx : IsB x) (hx' : IsB x') (hm : IsB m) (hm' : IsB m') (lx : x.length = x'.length) (lm : m.length = m'.length) (a : ∀ i, 13 * t ≤ i → bitI m i = 0) (a' : ∀ i, 13 * t ≤ i → bitI m' i = 0)
    (h : wordL t x m = wordL t x' m') : x = x' ∧ m = m' := by
  have hc : ∀ i, cf (wordL t x m) i = cf (wordL t x' m') i := fun i => by rw [h]
  constructor
  · refine bytes_ext hx hx' lx fun i _ => ?_
    have := hc (13 * t + i)
    rw [cf_wordL, cf_wordL, if_neg (by omega), if_neg (by omega), Nat.add_sub_cancel_left] at this
    rw [← cf_bts_int, ← cf_bts_int, this]
  · refine bytes_ext hm hm' lm fun i _ => ?_
    by_cases hi : i < 13 * t
    · have := hc i
      rw [cf_wordL, cf_wordL, if_pos hi, if_pos hi] at this
      rw [← cf_bts_int, ← cf_bts_int, this]
    · rw [a i (by omega), a' i (by omega)]
theorem dec_unique {t : Nat} {x m d k d' k' : List Int} {n n' : Nat} (h8 : 13 * t + 8 * x.length ≤ 8191) (h : IsDec t x m d k n) (h' : IsDec t x m d' k' n') : d = d' ∧ k = k' ∧ n = n' := by
  have l := length_wordL t x m
  have e := near_unique (p := wordL t x m) (is01_wordL t d k) (is01_wordL t d' k') (by rw [length_wordL, length_wordL, h.ld]) (by rw [length_wordL, length_wordL, h'.ld]) (by omega) h.cw h'.cw
    (by rw [l, h.far]; exact h.near) (by rw [l, h'.far]; exact h'.near)
  obtain ⟨e1, e2⟩ := word_inj h.bd h'.bd h.bk h'.bk (by rw [h.ld, h'.ld]) (by rw [h.lk, h'.lk]) h.above h'.above e
  exact ⟨e1, e2, by rw [← h.far, ← h'.far, e]⟩
theorem dist_self (p : List Nat) (n : Nat) : distTo p p n = 0 := by
  induction n with
  | zero => rfl
  | succ n ih => simp [distTo, ih]
/-- A code word is told as it is, with no flip. -/
theorem dec_self {t : Nat} {x m d k : List Int} {n : Nat} (h : IsDec t x m d k n) : IsDec t d k d k 0 :=
  ⟨rfl, h.lk, h.bd, h.bk, h.above, h.cw, dist_self _ _, Nat.zero_le _⟩
theorem dec_enc {t : Nat} {x m d k : List Int} {n : Nat} (h : IsDec t x m d k n) : IsEnc t d k := ⟨h.lk, h.bk, h.above, h.cw⟩

end Go.Proofs.Ytjiaomkjebbkpab
