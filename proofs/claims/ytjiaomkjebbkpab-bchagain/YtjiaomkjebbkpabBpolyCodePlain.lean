/-
  The plain mathematics of layer 4's code, as it landed: bytes that are added into bytes at any bit (addRaised), and the product of an element's conjugates' factors (Minimal): it is the least polynomial.
-/
import Derived.Test.YtjiaomkjebbkpabBpolyRef2
namespace Go.Proofs.Ytjiaomkjebbkpab
open Go.RowKit
set_option linter.unusedVariables false

/-- A byte, raised by b bits: what stays in the byte, and what goes on. -/
def loPart (c : Int) (b : Nat) : Int := c * 2 ^ b % 256
def hiPart (c : Int) (b : Nat) : Int := c / 2 ^ (8 - b)
theorem fin_lo : ∀ c : Fin 256, ∀ b k : Fin 8, bitAt ((c.val : Int) * 2 ^ b.val % 256) k.val = if b.val ≤ k.val then bitAt (c.val : Int) (k.val - b.val) else 0 := by decide +kernel
theorem fin_hi : ∀ c : Fin 256, ∀ b k : Fin 8, bitAt ((c.val : Int) / 2 ^ (8 - b.val)) k.val = if k.val < b.val then bitAt (c.val : Int) (8 - b.val + k.val) else 0 := by decide +kernel
theorem lo_bit (c : Int) (b k : Nat) (h0 : 0 ≤ c) (h1 : c ≤ 255) (hb : b < 8) (hk : k < 8) : bitAt (loPart c b) k = if b ≤ k then bitAt c (k - b) else 0 :=
  of_fin (P := fun c => bitAt (c * 2 ^ b % 256) k = if b ≤ k then bitAt c (k - b) else 0) (fun c => fin_lo c ⟨b, hb⟩ ⟨k, hk⟩) c h0 h1
theorem hi_bit (c : Int) (b k : Nat) (h0 : 0 ≤ c) (h1 : c ≤ 255) (hb : b < 8) (hk : k < 8) : bitAt (hiPart c b) k = if k < b then bitAt c (8 - b + k) else 0 :=
  of_fin (P := fun c => bitAt (c / 2 ^ (8 - b)) k = if k < b then bitAt c (8 - b + k) else 0) (fun c => fin_hi c ⟨b, hb⟩ ⟨k, hk⟩) c h0 h1
theorem lo_range (c : Int) (b : Nat) : 0 ≤ loPart c b ∧ loPart c b ≤ 255 := by unfold loPart; omega
theorem hi_range (c : Int) (b : Nat) (h0 : 0 ≤ c) (h1 : c ≤ 255) : 0 ≤ hiPart c b ∧ hiPart c b ≤ 255 := shr_le c (8 - b) h0 h1
theorem xor_bits (x y : Int) (h0 : 0 ≤ x) (h1 : x ≤ 255) (g0 : 0 ≤ y) (g1 : y ≤ 255) (k : Nat) : bitAt (bits .xor .u8 x y) k = (bitAt x k + bitAt y k) % 2 := by
  have h := xor_bit x y h0 h1 g0 g1 k
  rcases bitAt_01 (bits .xor .u8 x y) k with e | e <;> rcases bitAt_01 x k with f | f <;> rcases bitAt_01 y k with g | g <;> rw [e, f, g] at h ⊢ <;> simp at h ⊢

/-- A number added into a byte. -/
def xorAt (z : List Int) (j : Nat) (v : Int) : List Int := z.set j (bits .xor .u8 (z[j]?.getD 0) v)
theorem length_xorAt (z : List Int) (j : Nat) (v : Int) : (xorAt z j v).length = z.length := by simp [xorAt]
theorem isB_xorAt {z : List Int} (h : IsB z) (j : Nat) (v : Int) (h0 : 0 ≤ v) (h1 : v ≤ 255) : IsB (xorAt z j v) := by
  intro n hn
  rcases List.mem_or_eq_of_mem_set hn with hn | rfl
  · exact h n hn
  · exact xor_range _ _ (h.idx j).1 (h.idx j).2 h0 h1
theorem xorAt_at (z : List Int) (j i : Nat) (v : Int) (hj : j < z.length) : (xorAt z j v)[i]?.getD 0 = if i = j then bits .xor .u8 (z[j]?.getD 0) v else z[i]?.getD 0 := by
  unfold xorAt
  rw [List.getElem?_set]
  by_cases e : i = j
  · subst e; simp [hj]
  · rw [if_neg (fun h => e h.symm), if_neg e]
theorem bitI_xorAt {z : List Int} (h : IsB z) (j : Nat) (v : Int) (hj : j < z.length) (h0 : 0 ≤ v) (h1 : v ≤ 255) (i : Nat) : bitI (xorAt z j v) i = if i / 8 = j then (bitI z i + bitAt v (i % 8)) % 2 else bitI z i := by
  unfold bitI
  rw [xorAt_at z j (i / 8) v hj]
  by_cases e : i / 8 = j
  · subst e
    rw [if_pos rfl, if_pos rfl, xor_bits _ _ (h.idx _).1 (h.idx _).2 h0 h1]
  · rw [if_neg e, if_neg e]

/-- A byte added into bytes at the bit 8f + b. -/
def addByte (z : List Int) (f b : Nat) (c : Int) : List Int := if hiPart c b = 0 then xorAt z f (loPart c b) else xorAt (xorAt z f (loPart c b)) (f + 1) (hiPart c b)
theorem length_addByte (z : List Int) (f b : Nat) (c : Int) : (addByte z f b c).length = z.length := by unfold addByte; split <;> simp [length_xorAt]
theorem isB_addByte {z : List Int} (h : IsB z) (f b : Nat) (c : Int) (h0 : 0 ≤ c) (h1 : c ≤ 255) : IsB (addByte z f b c) := by
  have hl := lo_range c b
  have hh := hi_range c b h0 h1
  unfold addByte
  split
  · exact isB_xorAt h _ _ hl.1 hl.2
  · exact isB_xorAt (isB_xorAt h _ _ hl.1 hl.2) _ _ hh.1 hh.2
theorem bitI_addByte {z : List Int} (h : IsB z) (f b : Nat) (c : Int) (h0 : 0 ≤ c) (h1 : c ≤ 255) (hb : b < 8) (hf : f < z.length) (hf' : hiPart c b ≠ 0 → f + 1 < z.length) (i : Nat) :
    bitI (addByte z f b c) i = (bitI z i + if 8 * f + b ≤ i ∧ i < 8 * f + b + 8 then bitAt c (i - (8 * f + b)) else 0) % 2 := by
  have hl := lo_range c b
  have hh := hi_range c b h0 h1
  have hbz := bitI_01 z i
  have L := lo_bit c b (i % 8) h0 h1 hb (by omega)
  have H := hi_bit c b (i % 8) h0 h1 hb (by omega)
  unfold addByte
  by_cases hz : hiPart c b = 0
  · rw [if_pos hz, bitI_xorAt h f _ hf hl.1 hl.2]
    by_cases e : i / 8 = f
    · rw [if_pos e, L]
      by_cases hbk : b ≤ i % 8
      · rw [if_pos hbk, if_pos (by omega), show i - (8 * f + b) = i % 8 - b from by omega]
      · rw [if_neg hbk, if_neg (by omega)]
    · rw [if_neg e]
      rw [hz] at H
      by_cases hr : 8 * f + b ≤ i ∧ i < 8 * f + b + 8
      · rw [if_pos hr]
        rw [if_pos (by omega), show 8 - b + i % 8 = i - (8 * f + b) from by omega] at H
        rw [← H]
        unfold bitAt
        simp
        omega
      · rw [if_neg hr]; omega
  · rw [if_neg hz, bitI_xorAt (isB_xorAt h _ _ hl.1 hl.2) (f + 1) _ (by rw [length_xorAt]; exact hf' hz) hh.1 hh.2, bitI_xorAt h f _ hf hl.1 hl.2]
    by_cases e : i / 8 = f
    · rw [if_neg (by omega), if_pos e, L]
      by_cases hbk : b ≤ i % 8
      · rw [if_pos hbk, if_pos (by omega), show i - (8 * f + b) = i % 8 - b from by omega]
      · rw [if_neg hbk, if_neg (by omega)]
    · rw [if_neg e]
      by_cases e' : i / 8 = f + 1
      · rw [if_pos e', H]
        by_cases hbk : i % 8 < b
        · rw [if_pos hbk, if_pos (by omega), show i - (8 * f + b) = 8 - b + i % 8 from by omega]
        · rw [if_neg hbk, if_neg (by omega)]
      · rw [if_neg e', if_neg (by omega)]; omega

/-- What addRaised holds behind k rounds: q's first k bytes added in, raised by s. -/
def raiseTo (z y : List Int) (s : Nat) : Nat → List Int
  | 0 => z
  | k + 1 => addByte (raiseTo z y s k) (s / 8 + k) (s % 8) (y[k]?.getD 0)
theorem length_raiseTo (z y : List Int) (s k : Nat) : (raiseTo z y s k).length = z.length := by
  induction k with
  | zero => rfl
  | succ k ih => show (addByte _ _ _ _).length = _; rw [length_addByte, ih]
theorem isB_raiseTo {z y : List Int} (hz : IsB z) (hy : IsB y) (s k : Nat) : IsB (raiseTo z y s k) := by
  induction k with
  | zero => exact hz
  | succ k ih => exact isB_addByte ih _ _ _ (hy.idx k).1 (hy.idx k).2
/-- It fits. -/
theorem raise_fit {y : List Int} (hy : IsB y) (s n k : Nat) (h1 : s / 8 + y.length ≤ n) (h2 : (norm (bts y)).length + s ≤ 8 * n) (hk : k < y.length) (h : hiPart (y[k]?.getD 0) (s % 8) ≠ 0) : s / 8 + k + 1 < n := by
  rcases Nat.lt_or_ge (s / 8 + k + 1) n with h' | h'
  · exact h'
  · exfalso
    apply h
    have hi := hy.idx k
    have hr := hi_range (y[k]?.getD 0) (s % 8) hi.1 hi.2
    refine byte_ext _ 0 hr.1 hr.2 (by decide) (by decide) fun j hj => ?_
    rw [hi_bit _ _ j hi.1 hi.2 (by omega) hj]
    have e0 : bitAt 0 j = 0 := by unfold bitAt; simp
    rw [e0]
    split
    · rename_i hlt
      have e := bitI_at y k (8 - s % 8 + j) (by omega)
      rw [← e, ← cf_bts_int, norm_above _ _ (by omega)]
      rfl
    · rfl
theorem bitI_raiseTo {z y : List Int} (hz : IsB z) (hy : IsB y) (s k : Nat) (h1 : s / 8 + y.length ≤ z.length) (h2 : (norm (bts y)).length + s ≤ 8 * z.length) (hk : k ≤ y.length) (i : Nat) :
    bitI (raiseTo z y s k) i = (bitI z i + if s ≤ i ∧ i < s + 8 * k then bitI y (i - s) else 0) % 2 := by
  induction k with
  | zero =>
    rw [if_neg (by omega)]
    have := bitI_01 z i
    show bitI z i = _
    omega
  | succ k ih =>
    have ih := ih (by omega)
    show bitI (addByte _ _ _ _) i = _
    rw [bitI_addByte (isB_raiseTo hz hy s k) _ _ _ (hy.idx k).1 (hy.idx k).2 (by omega) (by rw [length_raiseTo]; omega) (fun hne => by rw [length_raiseTo]; exact raise_fit hy s _ k h1 h2 (by omega) hne), ih]
    have e : 8 * (s / 8 + k) + s % 8 = s + 8 * k := by omega
    rw [e]
    by_cases ha : s ≤ i ∧ i < s + 8 * k
    · rw [if_pos ha, if_neg (by omega), if_pos (by omega)]; omega
    · rw [if_neg ha]
      by_cases hb : s + 8 * k ≤ i ∧ i < s + 8 * k + 8
      · rw [if_pos hb, if_pos (by omega)]
        have e := bitI_at y k (i - (s + 8 * k)) (by omega)
        rw [← e, show 8 * k + (i - (s + 8 * k)) = i - s from by omega]
        omega
      · rw [if_neg hb, if_neg (by omega)]; omega
/-- All of it: the sum with the raised polynomial. -/
theorem raise_all {z y : List Int} (hz : IsB z) (hy : IsB y) (s : Nat) (h1 : s / 8 + y.length ≤ z.length) (h2 : (norm (bts y)).length + s ≤ 8 * z.length) :
    Eqv (bts (raiseTo z y s y.length)) (addL (bts z) (mulL (bts y) (xs s))) := fun i => by
  apply Int.ofNat.inj
  show ((cf (bts (raiseTo z y s y.length)) i : Nat) : Int) = ((cf (addL (bts z) (mulL (bts y) (xs s))) i : Nat) : Int)
  rw [cf_bts_int, bitI_raiseTo hz hy s _ h1 h2 (Nat.le_refl _), cf_addL, cf_mul_xs _ _ _ (is01_bts y).isP]
  by_cases h : s ≤ i
  · rw [if_pos h, xor_int ((is01_bts z).cf i) ((is01_bts y).cf _), cf_bts_int, cf_bts_int]
    by_cases h' : i < s + 8 * y.length
    · rw [if_pos ⟨h, h'⟩]
    · rw [if_neg (by omega), bitI_past y _ (by omega)]
  · rw [if_neg h, if_neg (by omega), Nat.xor_zero, cf_bts_int]
    have := bitI_01 z i
    omega

/-- The product so far, of Mul. -/
theorem mul_take_step {p q : List Nat} (hp : Is01 p) (hq : Is01 q) (k : Nat) (hk : k < p.length) (h : cf p k = 1) :
    Eqv (mulL (p.take (k + 1)) q) (addL (mulL (p.take k) q) (mulL q (xs k))) := fun i => by
  rw [List.take_add_one, List.getElem?_eq_getElem hk]
  show cf (mulL (p.take k ++ [p[k]]) q) i = _
  have e : p[k] = 1 := by rw [← h]; unfold cf; rw [List.getElem?_eq_getElem hk]; rfl
  rw [e, mulL_snoc _ _ _ (is01_take hp k).isP hq.isP (by decide), cf_addL, cf_mul_xs _ _ _ hq.isP, List.length_take, Nat.min_eq_left (by omega)]
  split
  · rw [one_gmul _ (cf_lt hq.isP _)]
  · rfl
theorem mul_take_skip {p q : List Nat} (hp : Is01 p) (hq : Is01 q) (k : Nat) (h : cf p k = 0) : Eqv (mulL (p.take (k + 1)) q) (mulL (p.take k) q) := by
  refine mulL_left q (is01_take hp _).isP (is01_take hp _).isP hq.isP fun i => ?_
  unfold cf at h ⊢
  rw [List.getElem?_take, List.getElem?_take]
  by_cases e : i < k
  · rw [if_pos e, if_pos (by omega)]
  · rw [if_neg e]
    by_cases e' : i < k + 1
    · rw [if_pos e', show i = k from by omega, h]; rfl
    · rw [if_neg e']
/-- One round of Mod. -/
theorem mod_step {p q r r' : List Nat} {k d : Nat} (hq : Is01 q) (hr : Is01 r) (hd : (norm q).length = d + 1) (h : d < k) (hz : ∀ i, k ≤ i → cf r i = 0) (h1 : cf r (k - 1) = 1)
    (hb : ∃ c, Is01 c ∧ Eqv (addL (mulL q c) r) p) (he : Eqv r' (addL r (mulL q (xs (k - 1 - d))))) :
    (∃ c, Is01 c ∧ Eqv (addL (mulL q c) r') p) ∧ ∀ i, k - 1 ≤ i → cf r' i = 0 := by
  obtain ⟨c, hc, e⟩ := hb
  refine ⟨⟨addL c (xs (k - 1 - d)), is01_addL hc (is01_xs _), fun i => ?_⟩, fun i hi => ?_⟩
  · rw [cf_addL, mulL_add_right q c _ i, cf_addL, he i, cf_addL]
    have := e i
    rw [cf_addL] at this
    rw [← this, Nat.xor_comm (cf r i), Nat.xor_assoc, ← Nat.xor_assoc (cf (mulL q (xs (k - 1 - d))) i), Nat.xor_self, Nat.zero_xor]
  · rw [he i, cf_addL, cf_mul_xs _ _ _ hq.isP, if_pos (by omega)]
    by_cases e1 : i = k - 1
    · subst e1
      have l2 := norm_last q (by intro e; rw [e] at hd; simp at hd)
      rw [cf_norm, hd, show d + 1 - 1 = d from rfl] at l2
      have b2 := hq.cf d
      rw [h1, show k - 1 - (k - 1 - d) = d from by omega, show cf q d = 1 from by omega]
      rfl
    · rw [hz i (by omega), norm_above q _ (by omega)]; rfl

/-! Conjugates. -/
/-- The product of the factors of some elements. -/
def prodTo (cs : List Nat) : List Nat := cs.foldl (fun p c => norm (mulL p [c, 1])) [1]
theorem prodTo_snoc (cs : List Nat) (c : Nat) : prodTo (cs ++ [c]) = norm (mulL (prodTo cs) [c, 1]) := by simp [prodTo]
structure ProdOk (cs p : List Nat) : Prop where
  isP : IsP p
  nm : norm p = p
  len : p.length = cs.length + 1
  top : cf p cs.length = 1
  root : ∀ r ∈ cs, evl p r = 0
theorem prod_ok (cs : List Nat) (h : ∀ c ∈ cs, c < 8192) : ProdOk cs (prodTo cs) := by
  suffices H : ∀ k, k ≤ cs.length → ProdOk (cs.take k) (prodTo (cs.take k)) by
    have := H cs.length (Nat.le_refl _)
    rwa [List.take_length] at this
  intro k
  induction k with
  | zero =>
    intro _
    rw [List.take_zero]
    exact ⟨fun x hx => by simp [prodTo] at hx; omega, by decide, rfl, rfl, fun r hr => absurd hr (by simp)⟩
  | succ k ih =>
    intro hk
    have ih := ih (by omega)
    have hlk : (cs.take k).length = k := by rw [List.length_take]; omega
    have hck : cs[k] < 8192 := h _ (List.getElem_mem _)
    have hl1 := isP_lin1 hck
    rw [List.take_add_one, List.getElem?_eq_getElem (by omega)]
    show ProdOk (cs.take k ++ [cs[k]]) (prodTo (cs.take k ++ [cs[k]]))
    rw [prodTo_snoc]
    have hlen : (cs.take k ++ [cs[k]]).length = k + 1 := by rw [List.length_append, hlk]; rfl
    have ihl := ih.len
    have iht := ih.top
    have hiP := ih.isP
    have hroot := ih.root
    rw [hlk] at ihl iht
    have hd := mulL_deg (prodTo (cs.take k)) [cs[k], 1] k 1 hiP hl1 (fun i hi => cf_big _ _ (by omega)) (fun i hi => cf_big _ _ (by simp; omega))
    have htop : cf (mulL (prodTo (cs.take k)) [cs[k], 1]) (k + 1) = 1 := by
      rw [hd.1, iht, show cf [cs[k], 1] 1 = 1 from rfl, one_gmul 1 (by decide)]
    have hpm := isP_mulL [cs[k], 1] hiP
    have hnl : (norm (mulL (prodTo (cs.take k)) [cs[k], 1])).length = k + 2 := by
      have hle := norm_len_le (mulL (prodTo (cs.take k)) [cs[k], 1]) (k + 2) fun i hi => hd.2 i (by omega)
      rcases Nat.lt_or_ge (k + 1) (norm (mulL (prodTo (cs.take k)) [cs[k], 1])).length with hh | hh
      · omega
      · rw [norm_above _ _ hh] at htop; exact absurd htop (by decide)
    refine ⟨isP_norm hpm, norm_norm _, by rw [hlen, hnl], by rw [hlen, cf_norm]; exact htop, fun r hr => ?_⟩
    have hrl : r < 8192 := by
      rcases List.mem_append.1 hr with hr | hr
      · exact h r (List.mem_of_mem_take hr)
      · simp at hr; subst hr; exact hck
    rw [evl_eqv r (norm_eqv _), evl_mul _ _ r hiP hl1 hrl]
    rcases List.mem_append.1 hr with hr | hr
    · rw [hroot r hr, zero_gmul _ (evl_lt hl1 r hrl)]
    · simp at hr
      subst hr
      rw [evl_lin1 _ _ hck, Nat.xor_self, gmul_zero]
/-- An element and its squares, until they come round. -/
def conjL (x : Nat) : List Nat := if x = 1 then [1] else (List.range 13).map (sqN x)
theorem conj_lt {x : Nat} (hx : x < 8192) : ∀ c ∈ conjL x, c < 8192 := by
  intro c hc
  unfold conjL at hc
  split at hc
  · simp at hc; omega
  · obtain ⟨k, _, rfl⟩ := List.mem_map.1 hc
    exact sqN_lt x k hx
theorem conj_nodup {x : Nat} (hx : x < 8192) (h0 : x ≠ 0) : (conjL x).Nodup := by
  unfold conjL
  split
  · simp
  · rename_i h1
    rw [List.Nodup, List.pairwise_map]
    refine List.Pairwise.imp_of_mem ?_ (List.pairwise_lt_range (n := 13))
    intro i j _ hj hlt he
    exact sqN_ne hx h0 h1 hlt (List.mem_range.1 hj) he
theorem conj_min {x : Nat} (hx : x < 8192) (h0 : x ≠ 0) : (minp x).length = (conjL x).length + 1 ∧ ∀ c ∈ conjL x, evl (minp x) c = 0 := by
  have hm := minp_is x hx h0
  have hl := hm.len
  unfold conjL
  split
  · rename_i h1
    subst h1
    rw [if_pos rfl] at hl
    refine ⟨hl, fun c hc => ?_⟩
    simp at hc
    subst hc
    exact hm.val
  · rename_i h1
    rw [if_neg h1] at hl
    refine ⟨by simp [hl], fun c hc => ?_⟩
    obtain ⟨k, _, rfl⟩ := List.mem_map.1 hc
    exact evl_sqN hm.h01 x hx hm.val k
/-- Their factors' product is the least polynomial. -/
theorem prod_min {x : Nat} (hx : x < 8192) (h0 : x ≠ 0) : prodTo (conjL x) = minp x := by
  have hp := prod_ok (conjL x) (conj_lt hx)
  have hm := minp_is x hx h0
  obtain ⟨hl, hr⟩ := conj_min hx h0
  have ht := is01_last hm.h01 hm.nm hl
  have hn : norm (addL (prodTo (conjL x)) (minp x)) = [] := by
    rcases Decidable.em (norm (addL (prodTo (conjL x)) (minp x)) = []) with e | e
    · exact e
    · exfalso
      have hd := roots_lt (conjL x) _ (isP_addL hp.isP hm.h01.isP) e (conj_nodup hx h0) fun c hc => ⟨conj_lt hx c hc, by rw [evl_add, hp.root c hc, hr c hc]; rfl⟩
      have hle : (norm (addL (prodTo (conjL x)) (minp x))).length ≤ (conjL x).length := norm_len_le _ _ fun i hi => by
        rw [cf_addL]
        by_cases e : i = (conjL x).length
        · subst e; rw [hp.top, ht]; rfl
        · rw [cf_big _ _ (by rw [hp.len]; omega), cf_big _ _ (by rw [hl]; omega)]; rfl
      omega
  rw [← hp.nm, ← hm.nm]
  refine norm_ext fun i => ?_
  have := (norm_nil_iff _).1 hn i
  rw [cf_addL] at this
  exact xor_zero_eq this
/-- Where the walk through them ends. -/
theorem conj_end {x k : Nat} (hx : x < 8192) (h0 : x ≠ 0) (hk : k < 13) (hne : ∀ j, 0 < j → j ≤ k → sqN x j ≠ x) (h : sqN x (k + 1) = x) : (List.range (k + 1)).map (sqN x) = conjL x := by
  unfold conjL
  split
  · rename_i h1
    subst h1
    have : k = 0 := by
      rcases Nat.eq_zero_or_pos k with e | e
      · exact e
      · exfalso
        refine hne 1 (by omega) e ?_
        show gmul 1 1 = 1
        decide
    subst this
    rfl
  · rename_i h1
    by_cases e : k + 1 = 13
    · rw [e]
    · exfalso
      exact sqN_ne hx h0 h1 (show 0 < k + 1 by omega) (by omega) (by rw [h]; rfl)
theorem conj_more {x k : Nat} (hx : x < 8192) (hk : k < 13) (h : sqN x (k + 1) ≠ x) : k + 1 < 13 := by
  by_cases e : k + 1 = 13
  · exfalso; apply h; rw [e]; exact sq13 x hx
  · omega
theorem sqN_step (x k : Nat) : sqN x (k + 1) = gmul (sqN x k) (sqN x k) := rfl

/-! Packed. -/
/-- Where coefficients are 1, below k. -/
def onesAt (l : List Nat) (k : Nat) : List Int := apartTo (List.replicate ((l.length + 7) / 8) 0) (pk l) k
theorem bitI_zeros (n i : Nat) : bitI (List.replicate n 0) i = 0 := by
  unfold bitI
  have : (List.replicate n (0 : Int))[i / 8]?.getD 0 = 0 := by
    rw [List.getElem?_replicate]
    split <;> rfl
  rw [this]
  unfold bitAt
  simp
theorem onesAt_zero (l : List Nat) : onesAt l 0 = [] := rfl
theorem onesAt_hit {l : List Nat} (hl : Is01 l) (k : Nat) (h : cf l k = 1) : onesAt l (k + 1) = onesAt l k ++ [(k : Int)] := by
  unfold onesAt
  exact apartTo_hit _ _ _ (by rw [bitI_zeros, bitI_pk hl, h]; decide)
theorem onesAt_miss {l : List Nat} (hl : Is01 l) (k : Nat) (h : cf l k ≠ 1) : onesAt l (k + 1) = onesAt l k := by
  unfold onesAt
  refine apartTo_miss _ _ _ ?_
  have := hl.cf k
  rw [bitI_zeros, bitI_pk hl, show cf l k = 0 from by omega]
  rfl
theorem onesAt_all {l : List Nat} (hl : Is01 l) : onesAt l l.length = onesAt l (8 * ((l.length + 7) / 8)) := by
  have H : ∀ m, onesAt l (l.length + m) = onesAt l l.length := by
    intro m
    induction m with
    | zero => rfl
    | succ m ih => rw [← Nat.add_assoc, onesAt_miss hl _ (by rw [cf_big _ _ (by omega)]; decide), ih]
  have := H (8 * ((l.length + 7) / 8) - l.length)
  rw [← this]
  congr 1
  omega
theorem isB_zeros (n : Nat) : IsB (List.replicate n 0) := by
  intro x hx
  have := List.eq_of_mem_replicate hx
  omega
theorem turn_ones {l : List Nat} (hl : Is01 l) : turnI (List.replicate ((l.length + 7) / 8) 0) (onesAt l l.length) = pk l := by
  rw [onesAt_all hl]
  have := turn_apart (isB_zeros ((l.length + 7) / 8)) (isB_pk hl) (by rw [List.length_replicate, length_pk])
  rw [List.length_replicate] at this
  exact this
theorem onesAt_in {l : List Nat} (hl : Is01 l) : inAll ((l.length + 7) / 8) (onesAt l l.length) := by
  rw [onesAt_all hl]
  exact inAll_apartTo _ _ _

end Go.Proofs.Ytjiaomkjebbkpab
