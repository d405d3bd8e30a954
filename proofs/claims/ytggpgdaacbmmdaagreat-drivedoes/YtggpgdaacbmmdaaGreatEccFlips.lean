/-
  Flips of a page, plain: places, how many fall into each sector, what each sector is then.
-/
import Derived.Test.YtggpgdaacbmmdaaGreatEccCode6
import Derived.Test.YtggpgdaacbmmdaaGreatBchLaws5
namespace Go.Proofs.YtggpgdaacbmmdaaGreat
open Go.RowKit
set_option linter.unusedVariables false
set_option maxRecDepth 8192

/-- A bit is turned once, or not. -/
theorem bit_turned : ∀ (ps : List Int) (z : List Int), IsB z → ps.Nodup → (∀ p ∈ ps, 0 ≤ p ∧ p < 8 * (z.length : Int)) → ∀ q, q < 8 * z.length → bitI (turnI z ps) q = if (q : Int) ∈ ps then 1 - bitI z q else bitI z q := by
  intro ps
  induction ps with
  | nil => intro z _ _ _ q _; simp [turnI]
  | cons p ps ih =>
    intro z hz hn hp q hq
    obtain ⟨hn1, hn2⟩ := List.nodup_cons.1 hn
    have hp0 := hp p (List.mem_cons_self)
    have hs : turnI z (p :: ps) = turnI (turn1 z p.toNat) ps := by simp [turnI]
    rw [hs, ih (turn1 z p.toNat) (isB_turn1 hz _) hn2 (fun r hr => by rw [length_turn1]; exact hp r (List.mem_cons_of_mem _ hr)) q (by rw [length_turn1]; exact hq), bitI_turn1 hz p.toNat q (by omega) hq]
    by_cases e : p = (q : Int)
    · subst e
      rw [if_neg hn1, if_pos (by omega), if_pos (List.mem_cons_self)]
    · rw [if_neg (show ¬ p.toNat = q by omega)]
      by_cases h2 : (q : Int) ∈ ps
      · rw [if_pos h2, if_pos (List.mem_cons_of_mem _ h2)]
      · rw [if_neg h2, if_neg (fun h => by
          rcases List.mem_cons.1 h with h | h
          · exact e h.symm
          · exact h2 h)]
/-- A byte in which no bit is turned. -/
theorem byte_kept : ∀ (ps : List Int) (z : List Int) (q : Nat), (∀ p ∈ ps, p.toNat / 8 ≠ q) → (turnI z ps)[q]?.getD 0 = z[q]?.getD 0 := by
  intro ps
  induction ps with
  | nil => intro z q _; rfl
  | cons p ps ih =>
    intro z q h
    have hs : turnI z (p :: ps) = turnI (turn1 z p.toNat) ps := by simp [turnI]
    rw [hs, ih _ _ fun r hr => h r (List.mem_cons_of_mem _ hr)]
    unfold turn1
    rw [set_get, if_neg (fun e => h p (List.mem_cons_self) e.1)]
/-- How many of the places fall into the first T bits of the part j of K bits. -/
def cntTo (K T : Nat) (ps : List Int) (j : Nat) : Nat := (ps.filter fun p => decide (p.toNat / K = j ∧ p.toNat % K < T)).length
/-- How many of the first n numbers F holds of. -/
def countTo (F : Nat → Bool) : Nat → Nat
  | 0 => 0
  | n + 1 => countTo F n + (if F n = true then 1 else 0)
theorem countTo_congr {F G : Nat → Bool} : ∀ {n : Nat}, (∀ i, i < n → F i = G i) → countTo F n = countTo G n := by
  intro n
  induction n with
  | zero => intro _; rfl
  | succ n ih => intro h; simp only [countTo]; rw [ih fun i hi => h i (by omega), h n (by omega)]
theorem countTo_add (F : Nat → Bool) (a : Nat) : ∀ b, countTo F (a + b) = countTo F a + countTo (fun i => F (a + i)) b := by
  intro b
  induction b with
  | zero => rfl
  | succ b ih => rw [← Nat.add_assoc]; simp only [countTo]; rw [ih]; omega
theorem countTo_insert {F : Nat → Bool} {r : Nat} (hr : F r = false) : ∀ n, countTo (fun i => decide (i = r) || F i) n = countTo F n + (if r < n then 1 else 0) := by
  intro n
  induction n with
  | zero => rfl
  | succ n ih =>
    simp only [countTo, ih]
    by_cases e : n = r
    · subst e
      simp [hr]
    · by_cases h : r < n
      · have h2 : r < n + 1 := by omega
        simp [e, h, h2]
        omega
      · have h2 : ¬ r < n + 1 := by omega
        simp [e, h, h2]
theorem place_iff {K T p j : Nat} (hT : T ≤ K) (hK : 0 < K) : (p / K = j ∧ p % K < T) ↔ (j * K ≤ p ∧ p < j * K + T) := by
  have hd := Nat.div_add_mod p K
  constructor
  · rintro ⟨rfl, h⟩
    rw [Nat.mul_comm] at hd
    omega
  · rintro ⟨h1, h2⟩
    have e : p / K = j := Nat.div_eq_of_lt_le h1 (by rw [Nat.add_mul, Nat.one_mul]; omega)
    rw [e, Nat.mul_comm] at hd
    exact ⟨e, by omega⟩
theorem cnt_count (K T j : Nat) (hT : T ≤ K) (hK : 0 < K) : ∀ ps : List Int, ps.Nodup → (∀ p ∈ ps, 0 ≤ p) → countTo (fun r => decide (((j * K + r : Nat) : Int) ∈ ps)) T = cntTo K T ps j := by
  intro ps
  induction ps with
  | nil =>
    intro _ _
    have : ∀ n, countTo (fun r => decide (((j * K + r : Nat) : Int) ∈ ([] : List Int))) n = 0 := by
      intro n
      induction n with
      | zero => rfl
      | succ n ih => simp only [countTo]; rw [ih]; simp
    rw [this]
    rfl
  | cons p ps ih =>
    intro hn hp
    obtain ⟨hn1, hn2⟩ := List.nodup_cons.1 hn
    have hp0 := hp p (List.mem_cons_self)
    have ih := ih hn2 fun r hr => hp r (List.mem_cons_of_mem _ hr)
    have hc : cntTo K T (p :: ps) j = cntTo K T ps j + (if p.toNat / K = j ∧ p.toNat % K < T then 1 else 0) := by
      unfold cntTo
      rw [List.filter_cons]
      by_cases h : p.toNat / K = j ∧ p.toNat % K < T
      · rw [if_pos h]; simp [h]
      · rw [if_neg h]; simp [h]
    rw [hc, ← ih]
    by_cases h : p.toNat / K = j ∧ p.toNat % K < T
    · obtain ⟨h1, h2⟩ := (place_iff hT hK).1 h
      rw [if_pos h]
      have := countTo_insert (F := fun r => decide (((j * K + r : Nat) : Int) ∈ ps)) (r := p.toNat - j * K) (by
        rw [decide_eq_false_iff_not, show ((j * K + (p.toNat - j * K) : Nat) : Int) = p by omega]
        exact hn1) T
      rw [if_pos (by omega)] at this
      rw [← this]
      refine countTo_congr fun i hi => ?_
      rw [Bool.eq_iff_iff]
      simp only [decide_eq_true_iff, Bool.or_eq_true, List.mem_cons]
      constructor
      · rintro (h3 | h3)
        · exact .inl (by omega)
        · exact .inr h3
      · rintro (h3 | h3)
        · exact .inl (by omega)
        · exact .inr h3
    · rw [if_neg h, Nat.add_zero]
      refine countTo_congr fun i hi => ?_
      rw [Bool.eq_iff_iff]
      simp only [decide_eq_true_iff, List.mem_cons]
      constructor
      · rintro (h3 | h3)
        · exact absurd ((place_iff hT hK).2 ⟨by omega, by omega⟩) h
        · exact h3
      · exact fun h3 => .inr h3
theorem dist_count {p q : List Nat} {F : Nat → Bool} : ∀ {n : Nat}, (∀ i, i < n → (cf p i = cf q i ↔ F i = false)) → distTo p q n = countTo F n := by
  intro n
  induction n with
  | zero => intro _; rfl
  | succ n ih =>
    intro h
    simp only [distTo, countTo]
    rw [ih fun i hi => h i (by omega)]
    congr 1
    have := h n (by omega)
    by_cases e : cf p n = cf q n
    · rw [if_pos e, if_neg (by rw [this.1 e]; simp)]
    · rw [if_neg e, if_pos (by
        rcases Bool.eq_false_or_eq_true (F n) with h2 | h2
        · exact h2
        · exact absurd (this.2 h2) e)]
theorem bts_part {z : List Int} {o n i : Nat} (ho : o + n ≤ z.length) (hi : i < 8 * n) : (cf (bts (part z o n)) i : Int) = bitI z (8 * o + i) := by rw [cf_bts_int, bitI_part _ _ _ _ hi]
/-- **What a page's sector is behind flips.** -/
theorem flip_dec {s n f m W L j : Nat} {x z ps : List Int} (hz : IsPack s n f m W x z) (hW : n + m = W) (hm : (13 * f + 7) / 8 = m) (hn1 : 1 ≤ n) (hj : j < s) (hx : IsB x) (hxl : s * n ≤ x.length) (hnd : ps.Nodup) (hin : ∀ p ∈ ps, 0 ≤ p ∧ p < 8 * ((s * W : Nat) : Int)) (hc : cntTo (8 * W) (8 * n + 13 * f) ps j ≤ f) :
    IsDec f (part (turnI z ps) (j * W) n) (part (turnI z ps) (j * W + n) m) (part x (j * n) n) (part z (j * W + n) m) (cntTo (8 * W) (8 * n + 13 * f) ps j) := by
  have hle := at_le (W := W) hj
  have hln := at_le (W := n) hj
  have hzl := hz.len
  have htl : (turnI z ps).length = z.length := length_turnI z ps
  have he := hz.all.more j hj
  have hd := hz.all.data j hj
  have hbit : ∀ q, q < 8 * z.length → bitI (turnI z ps) q = if (q : Int) ∈ ps then 1 - bitI z q else bitI z q := bit_turned ps z hz.isB hnd fun p hp => by have := hin p hp; omega
  have lx : (part (turnI z ps) (j * W) n).length = n := length_part (by omega)
  refine ⟨by rw [lx, length_part (by omega)], he.len, isB_part hx _ _, isB_part hz.isB _ _, he.above, he.cw, ?_, hc⟩
  rw [lx, ← cnt_count (8 * W) (8 * n + 13 * f) j (by omega) (by omega) ps hnd fun p hp => (hin p hp).1]
  have key : ∀ (q : Nat) (a b : Nat), q < 8 * z.length → (a : Int) = bitI (turnI z ps) q → (b : Int) = bitI z q → (a = b ↔ decide ((q : Int) ∈ ps) = false) := by
    intro q a b hq ha hb
    rw [hbit q hq] at ha
    have h01 := bitI_01 z q
    rw [decide_eq_false_iff_not]
    by_cases h : (q : Int) ∈ ps
    · rw [if_pos h] at ha
      constructor
      · intro e; omega
      · intro h2; exact absurd h h2
    · rw [if_neg h] at ha
      exact ⟨fun _ => h, fun _ => by omega⟩
  have hsplit : countTo (fun r => decide (((j * (8 * W) + r : Nat) : Int) ∈ ps)) (8 * n + 13 * f) = countTo (fun i => if i < 13 * f then decide (((j * (8 * W) + (8 * n + i) : Nat) : Int) ∈ ps) else decide (((j * (8 * W) + (i - 13 * f) : Nat) : Int) ∈ ps)) (13 * f + 8 * n) := by
    rw [countTo_add _ (8 * n) (13 * f), countTo_add _ (13 * f) (8 * n), Nat.add_comm]
    congr 1
    · exact countTo_congr fun i hi => by rw [if_pos hi]
    · exact countTo_congr fun i hi => by rw [if_neg (by omega), Nat.add_sub_cancel_left]
  rw [hsplit]
  have hjK : j * (8 * W) = 8 * (j * W) := by rw [← Nat.mul_assoc, Nat.mul_comm j 8, Nat.mul_assoc]
  refine dist_count fun i hi => ?_
  rw [cf_wordL, cf_wordL]
  by_cases h : i < 13 * f
  · rw [if_pos h, if_pos h, if_pos h]
    refine key (j * (8 * W) + (8 * n + i)) _ _ (by rw [hjK]; omega) ?_ ?_
    · rw [bts_part (by omega) (by omega)]
      congr 1
      omega
    · rw [bts_part (by omega) (by omega)]
      congr 1
      omega
  · rw [if_neg h, if_neg h, if_neg h]
    refine key (j * (8 * W) + (i - 13 * f)) _ _ (by rw [hjK]; omega) ?_ ?_
    · rw [bts_part (by omega) (by omega)]
      congr 1
      omega
    · rw [← hd, bts_part (by omega) (by omega)]
      congr 1
      omega
/-- The greatest of the first i. -/
def maxC (C : Nat → Nat) : Nat → Nat
  | 0 => 0
  | i + 1 => max (maxC C i) (C i)
/-- **What is read of a page behind few flips.** -/
theorem flip_read {s n f m W L : Nat} {x z ps : List Int} (hz : IsPack s n f m W x z) (hW : n + m = W) (hm : (13 * f + 7) / 8 = m) (hn1 : 1 ≤ n) (hn : n ≤ 64) (hf : f ≤ 8) (hx : IsB x) (hxl : s * n = x.length) (hnd : ps.Nodup) (hin : ∀ p ∈ ps, 0 ≤ p ∧ p < 8 * ((s * W : Nat) : Int)) (hc : ∀ j, j < s → cntTo (8 * W) (8 * n + 13 * f) ps j ≤ f)
    {S : Nat → Sec} (hS : ∀ j, j < s → IsSec f (part (turnI z ps) (j * W) n) (part (turnI z ps) (j * W + n) m) (S j)) :
    (∀ j, j < s → (S j).e = 0) ∧ dataTo S s = x ∧ mostTo S s = maxC (cntTo (8 * W) (8 * n + 13 * f) ps) s := by
  have h1 : ∀ j, j < s → (S j).e = 0 ∧ (S j).d = part x (j * n) n ∧ (S j).n = cntTo (8 * W) (8 * n + 13 * f) ps j := fun j hj => by
    have hd := flip_dec (L := L) hz hW hm hn1 hj hx (by omega) hnd hin (hc j hj)
    have hle := at_le (W := W) hj
    have hzl := hz.len
    rcases hS j hj with ⟨h0, k, hk⟩ | ⟨_, _, _, hno⟩
    · obtain ⟨e1, _, e3⟩ := dec_unique (by rw [length_part (by rw [length_turnI]; omega)]; omega) hk hd
      exact ⟨h0, e1, e3⟩
    · exact absurd hd (hno _ _ _)
  refine ⟨fun j hj => (h1 j hj).1, ?_, ?_⟩
  · have key : ∀ i, i ≤ s → dataTo S i = x.take (i * n) := by
      intro i
      induction i with
      | zero => intro _; simp [dataTo]
      | succ i ih =>
        intro hi
        simp only [dataTo]
        rw [ih (by omega), (h1 i (by omega)).2.1, Nat.add_mul, Nat.one_mul, List.take_add]
        rfl
    rw [key s (Nat.le_refl _), hxl, List.take_length]
  · have key : ∀ i, i ≤ s → mostTo S i = maxC (cntTo (8 * W) (8 * n + 13 * f) ps) i := by
      intro i
      induction i with
      | zero => intro _; rfl
      | succ i ih => intro hi; simp only [mostTo, maxC]; rw [ih (by omega), (h1 i (by omega)).2.2]
    exact key s (Nat.le_refl _)
theorem flip_mark {s W L : Nat} {z ps : List Int} (hL : s * W + 1 = L) (hin : ∀ p ∈ ps, 0 ≤ p ∧ p < 8 * ((s * W : Nat) : Int)) : (turnI z ps)[L - 1]?.getD 0 = z[L - 1]?.getD 0 := byte_kept ps z _ fun p hp => by have := hin p hp; omega
/-- The counts as a list. -/
def cntL (K T s : Nat) (ps : List Int) : List Int := (List.range s).map fun j => ((cntTo K T ps j : Nat) : Int)
theorem length_cntL (K T s : Nat) (ps : List Int) : (cntL K T s ps).length = s := by simp [cntL]
theorem cntL_at (K T s : Nat) (ps : List Int) (j : Nat) (hj : j < s) : (cntL K T s ps)[j]?.getD 0 = ((cntTo K T ps j : Nat) : Int) := by simp [cntL, hj]
theorem cntL_nil (K T s : Nat) : cntL K T s [] = List.replicate s 0 := by
  apply List.ext_getElem (by simp [cntL])
  intro i h1 h2
  simp [cntL, cntTo]
theorem cnt_snoc (K T : Nat) (ps : List Int) (p : Int) (j : Nat) : cntTo K T (ps ++ [p]) j = cntTo K T ps j + (if p.toNat / K = j ∧ p.toNat % K < T then 1 else 0) := by
  unfold cntTo
  rw [List.filter_append, List.length_append]
  congr 1
  by_cases h : p.toNat / K = j ∧ p.toNat % K < T
  · rw [if_pos h]; simp [h]
  · rw [if_neg h]; simp [h]
theorem cntL_hit (K T s : Nat) (ps : List Int) (p : Int) (h : p.toNat % K < T) (hs : p.toNat / K < s) : cntL K T s (ps ++ [p]) = (cntL K T s ps).set (p.toNat / K) (((cntTo K T ps (p.toNat / K) : Nat) : Int) + 1) := by
  refine getD_ext (by rw [List.length_set, length_cntL, length_cntL]) fun j hj => ?_
  rw [length_cntL] at hj
  rw [set_get, length_cntL, cntL_at _ _ _ _ _ hj, cntL_at _ _ _ _ _ hj, cnt_snoc]
  by_cases e : p.toNat / K = j
  · subst e
    rw [if_pos ⟨rfl, h⟩, if_pos ⟨rfl, hs⟩]
    omega
  · rw [if_neg (fun h => e h.1), if_neg (fun h => e h.1)]
    omega
theorem cntL_miss (K T s : Nat) (ps : List Int) (p : Int) (h : ¬ p.toNat % K < T) : cntL K T s (ps ++ [p]) = cntL K T s ps := by
  refine getD_ext (by rw [length_cntL, length_cntL]) fun j hj => ?_
  rw [length_cntL] at hj
  rw [cntL_at _ _ _ _ _ hj, cntL_at _ _ _ _ _ hj, cnt_snoc, if_neg (fun e => h e.2)]
  omega
theorem cnt_le (K T : Nat) (ps : List Int) (j : Nat) : cntTo K T ps j ≤ ps.length := List.length_filter_le _ _

end Go.Proofs.YtggpgdaacbmmdaaGreat
