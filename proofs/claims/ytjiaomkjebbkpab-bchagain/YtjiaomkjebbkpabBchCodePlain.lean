/-
  Plain facts for the code of layer 5 (bch): the word raised, the bits above struck out, the rest's values, turned sums, places parted; what Decode's steps make is a code word within t, or there is none.
-/
import Derived.Test.YtjiaomkjebbkpabBchMassey
import Derived.Test.YtjiaomkjebbkpabBchRef
import Derived.Test.YtjiaomkjebbkpabBpolyCode2
namespace Go.Proofs.Ytjiaomkjebbkpab
open Go.RowKit
set_option linter.unusedVariables false

/-! The word, raised; the bits above. -/
theorem pow_bits (n s : Nat) (h : s < 8 * n) (i : Nat) : bitI (turnI (List.replicate n 0) [(s : Int)]) i = if i = s then 1 else 0 := by
  have hl : (List.replicate n (0 : Int)).length = n := by simp
  have hin : inAll (List.replicate n (0 : Int)).length [(s : Int)] := by
    intro p hp
    simp at hp
    subst hp
    rw [hl]
    omega
  by_cases hi : i < 8 * n
  · rw [bitI_turnI (isB_zeros n) _ hin i (by rw [hl]; exact hi), bitI_zeros]
    by_cases e : i = s
    · subst e; simp [oddN]
    · have e' : ¬ s = i := fun h => e h.symm
      simp [oddN, e, e']
  · rw [bitI_past _ _ (by rw [length_turnI, hl]; omega), if_neg (by omega)]
theorem cf_xs (s i : Nat) : cf (xs s) i = if i = s then 1 else 0 := by
  have h := cf_mul_xs [1] s i isP_one1
  rw [mulL_comm [1] (xs s) isP_one1 (is01_xs s).isP i] at h
  have h2 := mulL_one (xs s) (is01_xs s).isP i
  rw [mulL_comm [1] (xs s) isP_one1 (is01_xs s).isP i] at h2
  rw [← h2, h]
  by_cases e : i = s
  · subst e; simp [cf]
  · rw [if_neg e]
    by_cases h3 : s ≤ i
    · rw [if_pos h3]; exact cf_big _ _ (by simp; omega)
    · rw [if_neg h3]
theorem bts_pow (n s : Nat) (h : s < 8 * n) : Eqv (bts (turnI (List.replicate n 0) [(s : Int)])) (xs s) := fun i => by
  rw [cf_bts, pow_bits n s h, cf_xs]
  split <;> rfl
theorem raised_eqv (t n : Nat) (x : List Int) (h : 13 * t < 8 * n) : Eqv (mulL (bts (turnI (List.replicate n 0) [((13 * t : Nat) : Int)])) (bts x)) (wordL t x []) := by
  refine (mulL_left (bts x) (is01_bts _).isP (is01_xs _).isP (is01_bts x).isP (bts_pow n _ h)).trans ((mulL_comm _ _ (is01_xs _).isP (is01_bts x).isP).trans fun i => ?_)
  rw [cf_mul_xs _ _ _ (is01_bts x).isP, cf_wordL]
  by_cases hi : i < 13 * t
  · rw [if_neg (by omega), if_pos hi]; rfl
  · rw [if_pos (by omega), if_neg hi]
/-- Bytes that hold the word of data alone. -/
structure Raised (t : Nat) (x z : List Int) : Prop where
  isB : IsB z
  eqv : Eqv (bts z) (wordL t x [])
  len : z.length ≤ (13 * t + 8 * x.length + 7) / 8
theorem raised_nb (t n : Nat) (x : List Int) (h : 13 * t < 8 * n) : Raised t x (nb (mulL (bts (turnI (List.replicate n 0) [((13 * t : Nat) : Int)])) (bts x))) := by
  have h01 := is01_mulL (is01_bts (turnI (List.replicate n 0) [((13 * t : Nat) : Int)])) (is01_bts x)
  have he := raised_eqv t n x h
  refine ⟨isB_nb h01, (bts_nb h01).trans he, ?_⟩
  rw [length_nb, norm_ext he]
  have := norm_length_le (wordL t x [])
  rw [length_wordL] at this
  omega
def maskI (s : Nat) : Int := ((2 : Int) ^ s - 1) % 256
theorem fin_mask : ∀ c : Fin 256, ∀ s : Fin 9, ∀ k : Fin 8, bitAt (bits .and .u8 (c.val : Int) (maskI s.val)) k.val = if k.val < s.val then bitAt (c.val : Int) k.val else 0 := by decide +kernel
theorem fin_mask_range : ∀ c : Fin 256, ∀ s : Fin 9, 0 ≤ bits .and .u8 (c.val : Int) (maskI s.val) ∧ bits .and .u8 (c.val : Int) (maskI s.val) ≤ 255 := by decide +kernel
/-- The more bytes without the bits above. -/
def lowB (t : Nat) (m : List Int) : List Int := m.set (m.length - 1) (bits .and .u8 (m[m.length - 1]?.getD 0) (maskI (13 * t - 8 * (m.length - 1))))
structure IsLow (t : Nat) (m z : List Int) : Prop where
  len : z.length = m.length
  isB : IsB z
  bit : ∀ i, bitI z i = if i < 13 * t then bitI m i else 0
theorem low_ok (t : Nat) (m : List Int) (h1 : 1 ≤ t) (h8 : t ≤ 8) (hm : m.length = (13 * t + 7) / 8) (hb : IsB m) : IsLow t m (lowB t m) := by
  have hc := hb.idx (m.length - 1)
  have hs : 13 * t - 8 * (m.length - 1) < 9 := by omega
  have hr := of_fin (P := fun c => ∀ s : Fin 9, 0 ≤ bits .and .u8 c (maskI s.val) ∧ bits .and .u8 c (maskI s.val) ≤ 255) fin_mask_range _ hc.1 hc.2 ⟨_, hs⟩
  refine ⟨by simp [lowB], ?_, fun i => ?_⟩
  · intro n hn
    rcases List.mem_or_eq_of_mem_set hn with h | h
    · exact hb n h
    · subst h; exact hr
  · unfold lowB bitI
    rw [List.getElem?_set]
    by_cases e : m.length - 1 = i / 8
    · rw [if_pos e, if_pos (by omega)]
      have := of_fin (P := fun c => ∀ s : Fin 9, ∀ k : Fin 8, bitAt (bits .and .u8 c (maskI s.val)) k.val = if k.val < s.val then bitAt c k.val else 0) fin_mask _ hc.1 hc.2 ⟨_, hs⟩ ⟨i % 8, Nat.mod_lt _ (by decide)⟩
      simp only [Option.getD_some]
      refine this.trans ?_
      show (if i % 8 < 13 * t - 8 * (m.length - 1) then bitAt (m[m.length - 1]?.getD 0) (i % 8) else 0) = _
      rw [← e]
      by_cases h : i < 13 * t
      · rw [if_pos h, if_pos (by omega)]
      · rw [if_neg h, if_neg (by omega)]
    · rw [if_neg e]
      by_cases h : i < 13 * t
      · rw [if_pos h]
      · rw [if_neg h, List.getElem?_eq_none (by omega)]
        show bitAt 0 _ = 0
        unfold bitAt
        simp
theorem word_low {t : Nat} {x m z : List Int} (h : IsLow t m z) : Eqv (wordL t x z) (wordL t x m) := fun i => by
  rw [cf_wordL, cf_wordL]
  by_cases hi : i < 13 * t
  · rw [if_pos hi, if_pos hi, cf_bts, cf_bts, h.bit, if_pos hi]
  · rw [if_neg hi, if_neg hi]
/-- The raised word and the low bits: the word. -/
theorem word_sum {t : Nat} {x m z y : List Int} (hy : Raised t x y) (h : IsLow t m z) : Eqv (addL (bts y) (bts z)) (wordL t x m) := fun i => by
  rw [cf_addL, hy.eqv i, cf_wordL, cf_wordL, cf_bts z, h.bit]
  by_cases hi : i < 13 * t
  · rw [if_pos hi, if_pos hi, if_pos hi]
    show 0 ^^^ _ = _
    rw [Nat.zero_xor, cf_bts]
  · rw [if_neg hi, if_neg hi, if_neg hi]
    show _ ^^^ 0 = _
    rw [Nat.xor_zero]

/-! The rest. -/
theorem mod_values {t : Nat} {p r : List Nat} (h : IsMod p (genTo t) r) (i : Nat) (h1 : 1 ≤ i) (h2 : i ≤ 2 * t) : evl r (gpow 2 i) = evl p (gpow 2 i) := by
  obtain ⟨a, ha, e⟩ := h.back
  have hy := pow2_ok i
  have := evl_eqv (gpow 2 i) e
  rw [evl_add, evl_mul _ _ _ (is01_genTo t).isP ha.isP hy.1, evl_gen t i (by omega) h2, zero_gmul _ (evl_lt ha.isP _ hy.1), Nat.zero_xor] at this
  exact this
theorem rest_len {t : Nat} {p r : List Nat} (ht : t ≤ 8) (h : IsMod p (genTo t) r) : (norm r).length ≤ 13 * t := by
  have := h.short
  rw [norm_genTo, length_genTo t ht] at this
  omega
theorem splice_zeros (n : Nat) (z : List Int) (h : z.length ≤ n) : (List.replicate n (0 : Int)).take 0 ++ z ++ (List.replicate n 0).drop (0 + z.length) = z ++ List.replicate (n - z.length) 0 := by simp
/-- What Encode lays down. -/
theorem enc_laid {t : Nat} {x : List Int} {r : List Nat} (ht : t ≤ 8) (h : IsMod (wordL t x []) (genTo t) r) : IsEnc t x (nb r ++ List.replicate ((13 * t + 7) / 8 - (nb r).length) 0) := by
  have hE := enc_of_mod (o := []) ht (fun i _ => rfl) h
  have hl := rest_len ht h
  have hnl : (nb r).length ≤ (13 * t + 7) / 8 := by rw [length_nb]; omega
  have hb : IsB (nb r ++ List.replicate ((13 * t + 7) / 8 - (nb r).length) 0) := by
    intro n hn
    rcases List.mem_append.1 hn with h1 | h1
    · exact isB_nb h.hr n h1
    · have := (List.mem_replicate.1 h1).2
      omega
  have e : nb r ++ List.replicate ((13 * t + 7) / 8 - (nb r).length) 0 = pk (padB (13 * t) r) := by
    have hlen : (nb r ++ List.replicate ((13 * t + 7) / 8 - (nb r).length) 0).length = (13 * t + 7) / 8 := by simp; omega
    refine bytes_ext hb hE.isB (by rw [hlen, hE.len]) fun i _ => ?_
    rw [bitI_pk (is01_padB _ h.hr), cf_padB]
    have h1 : bitI (nb r ++ List.replicate ((13 * t + 7) / 8 - (nb r).length) 0) i = bitI (nb r) i := by
      unfold bitI
      congr 1
      by_cases hi : i / 8 < (nb r).length
      · rw [List.getElem?_append_left hi]
      · rw [List.getElem?_append_right (by omega), List.getElem?_eq_none (l := nb r) (by omega), List.getElem?_replicate]
        split <;> rfl
    rw [h1, ← cf_bts_int, bts_nb h.hr i]
    by_cases hi : i < 13 * t
    · rw [if_pos hi]
    · rw [if_neg hi, norm_above r i (by omega)]
  rw [e]
  exact hE

/-! Turned sums. -/
/-- The sums when the bits at these places are turned. -/
def turnTo (s P : List Nat) : List Nat := (List.range s.length).map fun i => cf s i ^^^ xsum (fun q => gpow 2 ((i + 1) * q)) P
/-- The first k of them turned by one place. -/
def turnPart (s : List Nat) (q k : Nat) : List Nat := (List.range s.length).map fun i => if i < k then cf s i ^^^ gpow 2 ((i + 1) * q) else cf s i
theorem cf_map_range (f : Nat → Nat) (n i : Nat) (h : i < n) : cf ((List.range n).map f) i = f i := by simp [cf, h]
theorem length_turnTo (s P : List Nat) : (turnTo s P).length = s.length := by simp [turnTo]
theorem length_turnPart (s : List Nat) (q k : Nat) : (turnPart s q k).length = s.length := by simp [turnPart]
theorem turnTo_nil (s : List Nat) : turnTo s [] = s := eq_of_cf (length_turnTo _ _) fun i hi => by
  rw [length_turnTo] at hi
  unfold turnTo
  rw [cf_map_range _ _ _ hi]
  show cf s i ^^^ 0 = _
  rw [Nat.xor_zero]
theorem turnPart_zero (s : List Nat) (q : Nat) : turnPart s q 0 = s := eq_of_cf (length_turnPart _ _ _) fun i hi => by
  rw [length_turnPart] at hi
  unfold turnPart
  rw [cf_map_range _ _ _ hi, if_neg (by omega)]
theorem cf_turnPart (s : List Nat) (q k : Nat) (hk : k < s.length) : cf (turnPart s q k) k = cf s k := by
  unfold turnPart
  rw [cf_map_range _ _ _ hk, if_neg (by omega)]
theorem turnPart_succ (s : List Nat) (q k : Nat) (hk : k < s.length) : turnPart s q (k + 1) = (turnPart s q k).set k (cf s k ^^^ gpow 2 ((k + 1) * q)) := by
  apply eq_of_cf (by simp [length_turnPart])
  intro i hi
  rw [length_turnPart] at hi
  rw [cf_set _ _ _ _ (by rw [length_turnPart]; exact hk)]
  unfold turnPart
  rw [cf_map_range _ _ _ hi, cf_map_range _ _ _ hi]
  by_cases e : i = k
  · subst e; rw [if_pos (by omega), if_pos rfl]
  · rw [if_neg e]
    by_cases h : i < k
    · rw [if_pos h, if_pos (by omega)]
    · rw [if_neg h, if_neg (by omega)]
theorem turnPart_all (s P : List Nat) (q : Nat) : turnPart (turnTo s P) q s.length = turnTo s (P ++ [q]) := by
  apply eq_of_cf (by rw [length_turnPart, length_turnTo, length_turnTo])
  intro i hi
  rw [length_turnPart, length_turnTo] at hi
  unfold turnPart
  rw [cf_map_range _ _ _ (by rw [length_turnTo]; exact hi), if_pos hi]
  unfold turnTo
  rw [cf_map_range _ _ _ hi, cf_map_range _ _ _ hi, xsum_append]
  show _ = _ ^^^ (_ ^^^ (_ ^^^ 0))
  rw [Nat.xor_zero, Nat.xor_assoc]
theorem isP_turnTo {s : List Nat} (hs : IsP s) (P : List Nat) : IsP (turnTo s P) := by
  intro x hx
  obtain ⟨i, _, rfl⟩ := List.mem_map.1 hx
  exact xor_lt _ _ (cf_lt hs i) (xsum_lt (fun q => (pow2_ok _).1) P)
theorem isP_sumsTo {p : List Nat} (hp : IsP p) (n : Nat) : IsP (sumsTo p n) := by
  intro x hx
  obtain ⟨i, _, rfl⟩ := List.mem_map.1 hx
  exact evl_lt hp _ (pow2_ok _).1
theorem sumsTo_eqv {p q : List Nat} (n : Nat) (h : ∀ i, 1 ≤ i → i ≤ n → evl p (gpow 2 i) = evl q (gpow 2 i)) : sumsTo p n = sumsTo q n := by
  unfold sumsTo
  apply List.map_congr_left
  intro i hi
  exact h (i + 1) (by omega) (by have := List.mem_range.1 hi; omega)
/-- Are all of them 0? -/
def cleanB (s : List Nat) : Bool := s.all fun v => v == 0
theorem cleanB_iff (s : List Nat) : cleanB s = true ↔ ∀ i, i < s.length → cf s i = 0 := by
  unfold cleanB
  rw [List.all_eq_true]
  constructor
  · intro h i hi
    have := h _ (List.getElem_mem hi)
    unfold cf
    rw [List.getElem?_eq_getElem hi]
    simpa using this
  · intro h x hx
    obtain ⟨i, hi, rfl⟩ := List.mem_iff_getElem.1 hx
    have := h i hi
    unfold cf at this
    rw [List.getElem?_eq_getElem hi] at this
    simpa using this
theorem cleanB_false {s : List Nat} {i : Nat} (hi : i < s.length) (h : cf s i ≠ 0) : cleanB s = false := by
  rcases hc : cleanB s with _ | _
  · rfl
  · exact absurd ((cleanB_iff s).1 hc i hi) h

/-! Places, parted. -/
theorem odd_nodup {l : List Nat} (h : l.Nodup) (i : Nat) : oddN (ints l) i = decide (i ∈ l) := by
  have key : ∀ (l : List Nat) (b : Bool), l.Nodup → (ints l).foldl (fun b p => if p.toNat = i then !b else b) b = if i ∈ l then !b else b := by
    intro l
    induction l with
    | nil => intro b _; rfl
    | cons a l ih =>
      intro b hnd
      obtain ⟨h1, h2⟩ := List.nodup_cons.1 hnd
      show (ints l).foldl _ (if (a : Int).toNat = i then !b else b) = _
      rw [ih _ h2]
      by_cases e : a = i
      · subst e
        rw [if_neg h1, if_pos (Int.toNat_natCast a), if_pos (List.mem_cons_self)]
      · have e' : ¬ i = a := fun h => e h.symm
        rw [if_neg (show ¬ (a : Int).toNat = i by rw [Int.toNat_natCast]; exact e)]
        by_cases hi : i ∈ l
        · rw [if_pos hi, if_pos (List.mem_cons_of_mem _ hi)]
        · rw [if_neg hi, if_neg (by simp [e', hi])]
  unfold oddN
  rw [key l false h]
  by_cases hi : i ∈ l <;> simp [hi]
/-- How many of the first ones are below f. -/
def lowCount (P : List Nat) (f : Nat) : Nat := (P.takeWhile fun q => decide (q < f)).length
theorem low_count (P : List Nat) (f : Nat) (hs : P.Pairwise (· < ·)) : P.take (lowCount P f) = P.filter (fun q => decide (q < f)) ∧ P.drop (lowCount P f) = P.filter (fun q => !decide (q < f)) ∧ lowCount P f ≤ P.length := by
  unfold lowCount
  induction P with
  | nil => simp
  | cons a P ih =>
    obtain ⟨h1, h2⟩ := List.pairwise_cons.1 hs
    obtain ⟨i1, i2, i3⟩ := ih h2
    by_cases ha : a < f
    · have hd : decide (a < f) = true := by simpa using ha
      simp only [List.takeWhile_cons, List.filter_cons, hd, if_true, List.length_cons, List.take_succ_cons, List.drop_succ_cons, Bool.not_true, Bool.false_eq_true, if_false]
      exact ⟨by rw [i1], i2, by omega⟩
    · have hd : decide (a < f) = false := by simpa using ha
      have hall : ∀ q ∈ P, decide (q < f) = false := fun q hq => by
        have := h1 q hq
        simp
        omega
      simp only [List.takeWhile_cons, List.filter_cons, hd, List.length_cons, Bool.not_false, if_true, Bool.false_eq_true, if_false, List.length_nil, List.take_zero, List.drop_zero]
      refine ⟨?_, ?_, by omega⟩
      · symm
        rw [List.filter_eq_nil_iff]
        intro q hq
        rw [hall q hq]
        decide
      · congr 1
        symm
        rw [List.filter_eq_self]
        intro q hq
        rw [hall q hq]
        rfl
theorem low_at (P : List Nat) (f k : Nat) (hk : k < lowCount P f) : cf P k < f := by
  unfold lowCount at hk
  have hm : (P.takeWhile fun q => decide (q < f))[k] ∈ P.takeWhile fun q => decide (q < f) := List.getElem_mem hk
  have h1 := List.all_eq_true.1 (List.all_takeWhile (l := P) (p := fun q => decide (q < f))) _ hm
  have h2 : cf P k = (P.takeWhile fun q => decide (q < f))[k] := by
    obtain ⟨tl, ht⟩ := List.takeWhile_prefix (l := P) (p := fun q => decide (q < f))
    have h3 : P[k]? = some ((P.takeWhile fun q => decide (q < f))[k]) := by
      rw [← List.getElem?_eq_getElem hk, ← List.getElem?_append_left (l₂ := tl) hk, ht]
    unfold cf
    rw [h3]
    rfl
  rw [h2]
  simpa using h1
theorem low_end (P : List Nat) (f k : Nat) (hk : k < P.length) (hlow : ∀ j, j < k → cf P j < f) (h : ¬ cf P k < f) : k = lowCount P f := by
  unfold lowCount
  induction P generalizing k with
  | nil => simp at hk
  | cons a P ih =>
    cases k with
    | zero =>
      have : ¬ a < f := h
      simp [this]
    | succ k =>
      have ha : a < f := hlow 0 (by omega)
      have := ih k (by simpa using hk) (fun j hj => by have := hlow (j + 1) (by omega); rwa [cf_succ] at this) (by rwa [cf_succ] at h)
      simp [ha, ← this]
theorem low_all (P : List Nat) (f : Nat) (hlow : ∀ j, j < P.length → cf P j < f) : lowCount P f = P.length := by
  unfold lowCount
  induction P with
  | nil => rfl
  | cons a P ih =>
    have ha : a < f := hlow 0 (by simp)
    have := ih fun j hj => by have := hlow (j + 1) (by simpa using hj); rwa [cf_succ] at this
    simp [ha, this]
/-- The places of data: less the first so many. -/
def lessL (f : Nat) (P : List Nat) : List Nat := P.map fun q => q - f

/-! What Decode makes. -/
def indL (n : Nat) (f : Nat → Bool) : List Nat := (List.range n).map fun i => if f i then 1 else 0
theorem cf_indL (n : Nat) (f : Nat → Bool) (i : Nat) : cf (indL n f) i = if i < n ∧ f i = true then 1 else 0 := by
  by_cases h : i < n
  · unfold indL
    rw [cf_map_range _ _ _ h]
    by_cases hf : f i = true
    · rw [if_pos hf, if_pos ⟨h, hf⟩]
    · rw [if_neg hf, if_neg (fun hh => hf hh.2)]
  · rw [if_neg (fun hh => h hh.1), cf_big _ _ (by simp [indL]; omega)]
theorem is01_indL (n : Nat) (f : Nat → Bool) : Is01 (indL n f) := is01_of fun i => by rw [cf_indL]; split <;> decide
theorem supp_of {p : List Nat} {n : Nat} {f : Nat → Bool} (hl : p.length = n) (h : ∀ i, i < n → cf p i = if f i then 1 else 0) : supp p = (List.range n).filter f := by
  unfold supp
  rw [hl]
  apply List.filter_congr
  intro i hi
  rw [h i (List.mem_range.1 hi)]
  cases f i <;> rfl
/-- Two words, unlike just at the places of f. -/
theorem flip_facts {p q : List Nat} {n : Nat} {f : Nat → Bool} (hp : Is01 p) (hq : Is01 q) (lp : p.length = n) (lq : q.length = n) (h : ∀ i, i < n → cf q i = cf p i ^^^ (if f i then 1 else 0)) :
    supp (addL p q) = (List.range n).filter f ∧ distTo p q n = ((List.range n).filter f).length ∧ ∀ y, y < 8192 → evl q y = evl p y ^^^ xsum (gpow y) ((List.range n).filter f) := by
  have hl : (addL p q).length = n := by rw [length_addL, lp, lq]; omega
  have hs : supp (addL p q) = (List.range n).filter f := supp_of hl fun i hi => by rw [cf_addL, h i hi, ← Nat.xor_assoc, Nat.xor_self, Nat.zero_xor]
  refine ⟨hs, ?_, fun y hy => ?_⟩
  · have := dist_supp hp hq (by omega)
    rw [hs, lp] at this
    exact this.symm
  · have := evl_supp (is01_addL hp hq) y hy
    rw [hs, evl_add] at this
    rw [← this, ← Nat.xor_assoc, Nat.xor_self, Nat.zero_xor]
theorem sorted_filter (n : Nat) (f : Nat → Bool) : ((List.range n).filter f).Pairwise (· < ·) := List.Pairwise.filter _ List.pairwise_lt_range
theorem nodup_of_sorted {l : List Nat} (h : l.Pairwise (· < ·)) : l.Nodup := h.imp fun h => by omega
/-- What is turned. -/
theorem dec_words {t : Nat} {x m z : List Int} {f : Nat → Bool} {P : List Nat} (h1 : 1 ≤ t) (h8 : t ≤ 8) (hx : IsB x) (hm : m.length = (13 * t + 7) / 8) (hz : IsLow t m z) (hP : P = (List.range (13 * t + 8 * x.length)).filter f) :
    inAll z.length (ints (P.take (lowCount P (13 * t)))) ∧ inAll x.length (ints (lessL (13 * t) (P.drop (lowCount P (13 * t))))) ∧
    (∀ i, 13 * t ≤ i → bitI (turnI z (ints (P.take (lowCount P (13 * t))))) i = 0) ∧
    ∀ i, i < 13 * t + 8 * x.length → cf (wordL t (turnI x (ints (lessL (13 * t) (P.drop (lowCount P (13 * t)))))) (turnI z (ints (P.take (lowCount P (13 * t)))))) i = cf (wordL t x m) i ^^^ (if f i then 1 else 0) := by
  have hs : P.Pairwise (· < ·) := by rw [hP]; exact sorted_filter _ _
  obtain ⟨e1, e2, _⟩ := low_count P (13 * t) hs
  have hmem : ∀ i, i ∈ P ↔ i < 13 * t + 8 * x.length ∧ f i = true := fun i => by rw [hP]; simp
  rw [e1, e2]
  have n1 : (P.filter fun q => decide (q < 13 * t)).Nodup := nodup_of_sorted (List.Pairwise.filter _ hs)
  have n2 : (lessL (13 * t) (P.filter fun q => !decide (q < 13 * t))).Nodup := by
    unfold lessL
    rw [List.Nodup, List.pairwise_map]
    refine List.Pairwise.imp_of_mem ?_ (List.Pairwise.filter (fun q => !decide (q < 13 * t)) hs)
    intro a b ha hb hlt
    have ha := (List.mem_filter.1 ha).2
    simp at ha
    omega
  have m1 : ∀ i, i ∈ (P.filter fun q => decide (q < 13 * t)) ↔ i < 13 * t ∧ i ∈ P := fun i => by simp [List.mem_filter, and_comm]
  have m2 : ∀ i, i ∈ lessL (13 * t) (P.filter fun q => !decide (q < 13 * t)) ↔ 13 * t + i ∈ P := fun i => by
    unfold lessL
    simp only [List.mem_map, List.mem_filter, Bool.not_eq_true', decide_eq_false_iff_not]
    constructor
    · rintro ⟨a, ⟨ha, hn⟩, rfl⟩
      rwa [show 13 * t + (a - 13 * t) = a from by omega]
    · intro h
      exact ⟨13 * t + i, ⟨h, by omega⟩, by omega⟩
  have in1 : inAll z.length (ints (P.filter fun q => decide (q < 13 * t))) := by
    intro p hp
    unfold ints at hp
    obtain ⟨q, hq, rfl⟩ := List.mem_map.1 hp
    have := (m1 q).1 hq
    have hzl := hz.len
    omega
  have in2 : inAll x.length (ints (lessL (13 * t) (P.filter fun q => !decide (q < 13 * t)))) := by
    intro p hp
    unfold ints at hp
    obtain ⟨q, hq, rfl⟩ := List.mem_map.1 hp
    have := (hmem _).1 ((m2 q).1 hq)
    omega
  have b1 : ∀ i, bitI (turnI z (ints (P.filter fun q => decide (q < 13 * t)))) i = if i < 13 * t then (if f i = true then 1 - bitI m i else bitI m i) else 0 := fun i => by
    have hzl := hz.len
    by_cases hi : i < 8 * z.length
    · rw [bitI_turnI hz.isB _ in1 i hi, odd_nodup n1, hz.bit]
      by_cases h3 : i < 13 * t
      · rw [if_pos h3, if_pos h3]
        by_cases hf : f i = true
        · rw [if_pos (by simp [(m1 i).2 ⟨h3, (hmem i).2 ⟨by omega, hf⟩⟩]), if_pos hf]
        · rw [if_neg (by simp; intro hh; exact absurd ((hmem i).1 hh).2 hf), if_neg hf]
      · rw [if_neg h3, if_neg (by simp; intro _; omega), if_neg h3]
    · rw [bitI_past _ _ (by rw [length_turnI]; omega), if_neg (by omega)]
  have b2 : ∀ i, i < 8 * x.length → bitI (turnI x (ints (lessL (13 * t) (P.filter fun q => !decide (q < 13 * t))))) i = if f (13 * t + i) = true then 1 - bitI x i else bitI x i := fun i hi => by
    rw [bitI_turnI hx _ in2 i hi, odd_nodup n2]
    by_cases hf : f (13 * t + i) = true
    · rw [if_pos (by simp [(m2 i).2 ((hmem _).2 ⟨by omega, hf⟩)]), if_pos hf]
    · rw [if_neg (by simp; intro hh; exact absurd ((hmem _).1 ((m2 i).1 hh)).2 hf), if_neg hf]
  refine ⟨in1, in2, fun i hi => by rw [b1, if_neg (by omega)], fun i hi => ?_⟩
  rw [cf_wordL, cf_wordL]
  by_cases h3 : i < 13 * t
  · rw [if_pos h3, if_pos h3, cf_bts, cf_bts, b1, if_pos h3]
    have h01 := bitI_01 m i
    cases hf : f i
    · simp
    · rcases h01 with h | h <;> simp [h]
  · rw [if_neg h3, if_neg h3, cf_bts, cf_bts, b2 _ (by omega), show 13 * t + (i - 13 * t) = i from by omega]
    have h01 := bitI_01 x (i - 13 * t)
    cases hf : f i
    · simp
    · rcases h01 with h | h <;> simp [h]
theorem flip_pows (s : List Nat) (i : Nat) (P : List Nat) : xsum (gpow (gpow 2 (i + 1))) P = xsum (fun q => gpow 2 ((i + 1) * q)) P :=
  xsum_congr fun q _ => by rw [gpow_mul 2 _ _ (by decide)]
/-- **Clean: what was turned is a code word.** -/
theorem dec_yes {t : Nat} {x m z : List Int} {loc : List Nat} (h1 : 1 ≤ t) (h8 : t ≤ 8) (hx : IsB x) (hm : m.length = (13 * t + 7) / 8) (hz : IsLow t m z) (hlen : 13 * t + 8 * x.length ≤ 8191)
    (hp : IsP loc) (hn : norm loc = loc) (hne : loc ≠ []) (hl : loc.length - 1 ≤ t)
    (hc : cleanB (turnTo (sumsTo (wordL t x m) (2 * t)) (rts loc (13 * t + 8 * x.length))) = true) :
    IsDec t x m (turnI x (ints (lessL (13 * t) ((rts loc (13 * t + 8 * x.length)).drop (lowCount (rts loc (13 * t + 8 * x.length)) (13 * t)))))) (turnI z (ints ((rts loc (13 * t + 8 * x.length)).take (lowCount (rts loc (13 * t + 8 * x.length)) (13 * t))))) (rts loc (13 * t + 8 * x.length)).length := by
  obtain ⟨i1, i2, i3, i4⟩ := dec_words h1 h8 hx hm hz (f := fun i => evl loc (ginv (gpow 2 i)) == 0) (P := rts loc (13 * t + 8 * x.length)) rfl
  have hcount := rts_le hp (by rw [hn]; exact hne) hlen
  rw [hn] at hcount
  have ff := flip_facts (is01_wordL t x m) (is01_wordL t (turnI x (ints (lessL (13 * t) ((rts loc (13 * t + 8 * x.length)).drop (lowCount (rts loc (13 * t + 8 * x.length)) (13 * t)))))) (turnI z (ints ((rts loc (13 * t + 8 * x.length)).take (lowCount (rts loc (13 * t + 8 * x.length)) (13 * t)))))) (length_wordL _ _ _) (by rw [length_wordL, length_turnI]) i4
  have hc' := (cleanB_iff _).1 hc
  rw [length_turnTo, length_sumsTo] at hc'
  refine ⟨length_turnI _ _, by rw [length_turnI, hz.len, hm], isB_turnI hx _, isB_turnI hz.isB _, i3, fun i hi1 hi2 => ?_, ff.2.1, by omega⟩
  rw [ff.2.2 _ (pow2_ok i).1]
  have := hc' (i - 1) (by omega)
  unfold turnTo at this
  rw [cf_map_range _ _ _ (by rw [length_sumsTo]; omega), cf_sumsTo _ _ _ (by omega), show i - 1 + 1 = i from by omega] at this
  refine Eq.trans ?_ this
  have hx2 : xsum (gpow (gpow 2 i)) (rts loc (13 * t + 8 * x.length)) = xsum (fun q => gpow 2 (i * q)) (rts loc (13 * t + 8 * x.length)) := xsum_congr fun q _ => by rw [gpow_mul 2 _ _ (by decide)]
  show evl (wordL t x m) (gpow 2 i) ^^^ xsum (gpow (gpow 2 i)) (rts loc (13 * t + 8 * x.length)) = _
  rw [hx2]
/-- **Where there is a code word within t, it is found.** -/
theorem dec_found {t : Nat} {x m d k : List Int} {e : Nat} (hlen : 13 * t + 8 * x.length ≤ 8191) (h : IsDec t x m d k e) :
    (bmTo (sumsTo (wordL t x m) (2 * t)) (2 * t)).now.length - 1 ≤ t ∧
    cleanB (turnTo (sumsTo (wordL t x m) (2 * t)) (rts (bmTo (sumsTo (wordL t x m) (2 * t)) (2 * t)).now (13 * t + 8 * x.length))) = true := by
  have l1 := length_wordL t x m
  have l2 : (wordL t d k).length = 13 * t + 8 * x.length := by rw [length_wordL, h.ld]
  have hs : IsP (sumsTo (wordL t x m) (2 * t)) := isP_sumsTo (is01_wordL t x m).isP _
  have h01 := is01_addL (is01_wordL t x m) (is01_wordL t d k)
  have hal : (addL (wordL t x m) (wordL t d k)).length = 13 * t + 8 * x.length := by rw [length_addL, l1, l2]; omega
  have hcount : (supp (addL (wordL t x m) (wordL t d k))).length = e := by
    rw [dist_supp (is01_wordL t x m) (is01_wordL t d k) (by omega), l1, h.far]
  have hmem : ∀ q ∈ supp (addL (wordL t x m) (wordL t d k)), q < 13 * t + 8 * x.length := fun q hq => by
    have := (mem_supp.1 hq).1
    omega
  have hf : FlipSums (sumsTo (wordL t x m) (2 * t)) (2 * t) (supp (addL (wordL t x m) (wordL t d k))) := fun i hi => by
    have := evl_supp h01 _ (pow2_ok (i + 1)).1
    rw [evl_add, h.cw (i + 1) (by omega) (by omega), Nat.xor_zero] at this
    rw [cf_sumsTo _ _ _ hi, this]
    exact xsum_congr fun q _ => by rw [gpow_mul 2 _ _ (by decide)]
  have hn := h.near
  obtain ⟨f1, f2⟩ := bm_finds hs (nodup_supp _) hlen hmem (by omega) hf
  refine ⟨by omega, ?_⟩
  have hr : rts (bmTo (sumsTo (wordL t x m) (2 * t)) (2 * t)).now (13 * t + 8 * x.length) = supp (addL (wordL t x m) (wordL t d k)) := by
    unfold rts supp
    rw [hal]
    apply List.filter_congr
    intro i hi
    have hi := List.mem_range.1 hi
    have := f2 i hi
    rw [mem_supp] at this
    rw [Bool.eq_iff_iff]
    simp only [beq_iff_eq]
    rw [this, hal]
    exact ⟨fun h => h.2, fun h => ⟨hi, h⟩⟩
  rw [hr, cleanB_iff]
  intro i hi
  rw [length_turnTo, length_sumsTo] at hi
  unfold turnTo
  rw [cf_map_range _ _ _ (by rw [length_sumsTo]; exact hi), hf i hi, Nat.xor_self]

end Go.Proofs.Ytjiaomkjebbkpab
