/-
  Layer 4's reference, Mul and Mod: products and rests of lists of bits; nothing old turns.
-/
import Derived.Test.YtjiaomkjebbkpaaBpolyRef
namespace Go.Proofs.Ytjiaomkjebbkpaa
open Go.RowKit
set_option linter.unusedVariables false

theorem is01_take {p : List Nat} (h : Is01 p) (k : Nat) : Is01 (p.take k) := fun x hx => h x (List.mem_of_mem_take hx)
theorem is01_mulTo {p q : List Nat} (hp : Is01 p) (hq : Is01 q) (i k : Nat) : Is01 (mulTo p q i k) := by
  intro x hx
  obtain ⟨j, _, rfl⟩ := List.mem_map.1 hx
  unfold mulAt
  have h1 := (is01_mulL (is01_take hp i) hq).cf j
  split
  · rw [gmul_01 (hp.cf i) (hq.cf _)]
    have h2 := hp.cf i
    have h3 := hq.cf (j - i)
    have h4 : cf p i * cf q (j - i) < 2 := by rcases (show cf p i = 0 ∨ cf p i = 1 by omega) with e | e <;> rw [e] <;> omega
    rw [xor_01 h1 h4]; omega
  · rw [Nat.xor_zero]; exact h1
theorem mulTo_eqv (p q : List Nat) : Eqv (mulTo p q p.length 0) (mulL p q) := norm_iff.1 (mulTo_end p q)
theorem step01 {x a b : Nat} (hx : x < 2) (ha : a < 2) (hb : b < 2) : ((x ^^^ gmul a b : Nat) : Int) = ((x : Int) + (a : Int) * (b : Int)) % 2 := by
  have : ∀ x a b : Fin 2, ((x.val ^^^ gmul a.val b.val : Nat) : Int) = ((x.val : Int) + (a.val : Int) * (b.val : Int)) % 2 := by decide +kernel
  exact this ⟨x, hx⟩ ⟨a, ha⟩ ⟨b, hb⟩
theorem mul01 {a b : Nat} (ha : a < 2) (hb : b < 2) : (0 : Int) ≤ (a : Int) * (b : Int) ∧ (a : Int) * (b : Int) ≤ 1 := by
  have : ∀ a b : Fin 2, (0 : Int) ≤ (a.val : Int) * (b.val : Int) ∧ (a.val : Int) * (b.val : Int) ≤ 1 := by decide +kernel
  exact this ⟨a, ha⟩ ⟨b, hb⟩

set_option maxHeartbeats 3200000 in
set_option maxRecDepth 100000 in
theorem refMulB_any (a c : Option Addr) (len cap len' cap' : Nat) (p q : List Nat) (w : World) (hr : Row .i64 w a len cap (ints p)) (hp : Is01 p) (hr' : Row .i64 w c len' cap' (ints q)) (hq : Is01 q) (hsm : len ≤ 10000) (hsm' : len' ≤ 10000) :
    Calls Try.prog 52 #[.slice a len cap, .slice c len' cap'] w fun e w' => ∃ r v, Is01 r ∧ Eqv r (mulL p q) ∧ r.length = len + len' ∧ e = .returned (.slice v (len + len') (len + len')) ∧ Row .i64 w' v (len + len') (len + len') (ints r) ∧ Below w.heap.size w w' := by
  obtain ⟨i0, hi0, hz0, hz1, hz2⟩ := info_parts Try.info3
  have HL : Hid (p.length = len) := by have := hr.hlen; rwa [length_ints] at this
  have HL' : Hid (q.length = len') := by have := hr'.hlen; rwa [length_ints] at this
  have hmx : len + len' ≤ maxLen := by unfold maxLen; omega
  have hmk : ∀ w1 : World, w1.ownsRow w.heap.size 3 1 (.slice (some ⟨w.heap.size, 0, none⟩) (len + len') (len + len')) (len + len') (madeCells (Value.int IntKind.i64 0).cells ((len + len') * 1)).toList → w.grownBy w1 none →
      w1.ownsRow w.heap.size 3 1 (.slice (some ⟨w.heap.size, 0, none⟩) (len + len') (len + len')) (len + len') ((ints (mulTo p q 0 0)).map (Value.int .i64)) ∧ Below w.heap.size w w1 := fun w1 h1 h2 => by
    refine ⟨?_, (Below.refl _ _).grown h2 (Nat.le_refl _) (by simp)⟩
    rw [made_ints] at h1
    rw [mulTo_zero, HL.out, HL'.out]
    simpa [ints] using h1
  have HS : Hid (∀ i k, i < len → k < len' → mulTo p q i (k + 1) = (mulTo p q i k).set (i + k) (cf (mulTo p q i k) (i + k) ^^^ gmul (cf p i) (cf q k))) := fun i k hi hk => mulTo_step p q i k (by have := HL.out; have := HL'.out; omega)
  have HR : Hid (∀ i, i < len → mulTo p q i len' = mulTo p q (i + 1) 0) := fun i hi => by have := mulTo_row p q i hp.isP hq.isP (by have := HL.out; omega); rwa [HL'.out] at this
  have HE : Hid (Eqv (mulTo p q len 0) (mulL p q)) := by have := mulTo_eqv p q; rwa [HL.out] at this
  have HLL : Hid ((mulTo p q len 0).length = len + len') := by show _ = _; rw [length_mulTo, HL.out, HL'.out]
  go_enter Try.func52, Try.ntmps52
  go_wp2_with (at_make; refine wpList_make_full _ rfl _ _ 32 rfl w.heap.size 3 i0 (.int .i64 0) 1 Try.underlying32 hi0 hz0 hz1 _ _ _ _ (len + len') rfl rfl (by omega) (by omega) (by rw [hz2]; omega) hmx (Nat.le_refl _) ?_; intro w1 hown1 hgrow1)
  obtain ⟨hown2, hb2⟩ := hmk w1 hown1 hgrow1
  clear hmk hown1 hgrow1
  go_loopw [6] (fun y wr => ∃ i : Nat, i ≤ len ∧ y = .int .i64 i ∧ wr.ownsRow w.heap.size 3 1 (.slice (some ⟨w.heap.size, 0, none⟩) (len + len') (len + len')) (len + len') ((ints (mulTo p q i 0)).map (Value.int .i64)) ∧ Below w.heap.size w wr) (fun y _ => len - (intOf y).toNat)
  case atStart => exact ⟨0, Nat.zero_le _, rfl, hown2, hb2⟩
  case round =>
    clear hown2 hb2
    obtain ⟨i, hi, rfl, hown, hnx⟩ := hrel
    by_cases hlt : i < len
    · go_wp2
      go_loopw [7] (fun y wr => ∃ k : Nat, k ≤ len' ∧ y = .int .i64 k ∧ wr.ownsRow w.heap.size 3 1 (.slice (some ⟨w.heap.size, 0, none⟩) (len + len') (len + len')) (len + len') ((ints (mulTo p q i k)).map (Value.int .i64)) ∧ Below w.heap.size w wr) (fun y _ => len' - (intOf y).toNat)
      case atStart => exact ⟨0, Nat.zero_le _, rfl, hown, hnx⟩
      case round =>
        clear hown hnx
        obtain ⟨k, hk, rfl, hown, hnx⟩ := hrel
        by_cases hlt2 : k < len'
        · have hrr := hr.below hnx (Nat.le_refl _)
          have hrr' := hr'.below hnx (Nat.le_refl _)
          obtain ⟨b, off, rfl, hbs, hcell⟩ := hrr.hcell (by omega)
          obtain ⟨b', off', rfl, hbs', hcell'⟩ := hrr'.hcell (by omega)
          have hc1 := hcell i hlt
          have hc2 := hcell' k hlt2
          rw [ints_get] at hc1 hc2
          have hcl := owned_cell hown (i + k) (by omega)
          have hfz := hown.frozenAt (i + k)
          rw [ints_get] at hcl
          have c1 := hp.cf i
          have c2 := hq.cf k
          have c4 := (is01_mulTo hp hq i k).cf (i + k)
          have hii : (i : Int) < (len : Int) := by omega
          have hkk : (k : Int) < (len' : Int) := by omega
          have hik : (i : Int) + (k : Int) < (len : Int) + (len' : Int) := by omega
          have hik0 : (0 : Int) ≤ (i : Int) + (k : Int) := by omega
          have hik2 : (i : Int) + (k : Int) < ((len + len' : Nat) : Int) := by omega
          have hik3 : i + k < len + len' := by omega
          have hwr : IntKind.i64.wrap ((i : Int) + (k : Int)) = (i : Int) + (k : Int) := by rw [IntKind.wrap_i64]; omega
          have hto : ((i : Int) + (k : Int)).toNat = i + k := by omega
          have R := owned_set (q := i + k) (x := ((cf (mulTo p q i k) (i + k) : Int) + (cf p i : Int) * (cf q k : Int)) % 2) (Nat.le_refl _) hown hnx
          have HE2 : Hid ((ints (mulTo p q i k)).set (i + k) (((cf (mulTo p q i k) (i + k) : Int) + (cf p i : Int) * (cf q k : Int)) % 2) = ints (mulTo p q i (k + 1))) := by
            show _ = _
            rw [HS.out i k hlt hlt2, ← step01 c4 c1 c2]
            unfold ints
            rw [List.map_set]
          rw [HE2.out] at R
          have R' := And.intro R.1.drew R.2.drew
          have HRR : Hid _ := R'
          clear R R' hown hnx hcell hcell' hrr hrr' HE2
          have hm := mul01 c1 c2
          have hw1 : IntKind.i64.wrap ((cf p i : Int) * (cf q k : Int)) = (cf p i : Int) * (cf q k : Int) := by rw [IntKind.wrap_i64]; omega
          generalize cf (mulTo p q i k) (i + k) = x at *
          have hw2 : IntKind.i64.wrap ((x : Int) + (cf p i : Int) * (cf q k : Int)) = (x : Int) + (cf p i : Int) * (cf q k : Int) := by rw [IntKind.wrap_i64]; omega
          have hw3 : ((x : Int) + (cf p i : Int) * (cf q k : Int)).tmod 2 = ((x : Int) + (cf p i : Int) * (cf q k : Int)) % 2 := Int.tmod_eq_emod_of_nonneg (by omega)
          go_wp2
          go_region_with fail
          all_goals
            go_wp2
            go_roundw
            case rel => exact ⟨k + 1, by omega, by go_num, HRR.out.1, HRR.out.2⟩
            case measure => simp [intOf]; omega
        · have e : k = len' := by omega
          subst e
          rw [HR.out i hlt] at hown
          go_wp2
          go_roundw
          case rel => exact ⟨i + 1, by omega, by go_num, hown, hnx⟩
          case measure => simp [intOf]; omega
    · have e : i = len := by omega
      subst e
      obtain ⟨a5, cp5, hv5, hrow5⟩ := row_of_owns hown
      simp only [Value.slice.injEq, true_and] at hv5
      obtain ⟨rfl, rfl⟩ := hv5
      go_wp2
      go_ret
      exact ⟨_, _, is01_mulTo hp hq _ 0, HE.out, HLL.out, rfl, hrow5, hnx⟩

/-- What Mod holds behind k rounds of its inner loop, from the place s on. -/
def modTo (r q : List Nat) (s k : Nat) : List Nat := (List.range r.length).map fun j => if s ≤ j ∧ j < s + k then cf r j ^^^ cf q (j - s) else cf r j
theorem length_modTo (r q : List Nat) (s k : Nat) : (modTo r q s k).length = r.length := by simp [modTo]
theorem cf_modTo (r q : List Nat) (s k j : Nat) (h : j < r.length) : cf (modTo r q s k) j = if s ≤ j ∧ j < s + k then cf r j ^^^ cf q (j - s) else cf r j := by simp [cf, modTo, h]
theorem modTo_zero (r q : List Nat) (s : Nat) : modTo r q s 0 = r := by
  apply List.ext_getElem
  · rw [length_modTo]
  · intro j h1 h2
    simp only [modTo, List.getElem_map, List.getElem_range]
    rw [if_neg (by omega)]
    unfold cf
    rw [List.getElem?_eq_getElem h2]; rfl
theorem modTo_step (r q : List Nat) (s k : Nat) (h : s + k < r.length) : modTo r q s (k + 1) = (modTo r q s k).set (s + k) (cf (modTo r q s k) (s + k) ^^^ cf q k) := by
  have e0 := cf_modTo r q s k (s + k) h
  rw [if_neg (by omega)] at e0
  apply List.ext_getElem
  · simp [modTo]
  · intro j h1 h2
    rw [List.getElem_set]
    by_cases e : s + k = j
    · subst e
      rw [if_pos rfl, e0]
      simp only [modTo, List.getElem_map, List.getElem_range]
      rw [if_pos (by omega), show s + k - s = k from by omega]
    · rw [if_neg e]
      simp only [modTo, List.getElem_map, List.getElem_range]
      by_cases h : s ≤ j ∧ j < s + k
      · rw [if_pos h, if_pos (by omega)]
      · rw [if_neg h, if_neg (by omega)]
theorem is01_modTo {r q : List Nat} (hr : Is01 r) (hq : Is01 q) (s k : Nat) : Is01 (modTo r q s k) := by
  intro x hx
  obtain ⟨j, _, rfl⟩ := List.mem_map.1 hx
  split
  · rw [xor_01 (hr.cf j) (hq.cf _)]; omega
  · exact hr.cf j
/-- The power s. -/
def xs (s : Nat) : List Nat := List.replicate s 0 ++ [1]
theorem is01_xs (s : Nat) : Is01 (xs s) := by
  intro x hx
  unfold xs at hx
  simp at hx
  omega
theorem cf_mul_xs (q : List Nat) (s j : Nat) (hq : IsP q) : cf (mulL q (xs s)) j = if s ≤ j then cf q (j - s) else 0 := by
  have hz : IsP (List.replicate s 0) := by intro x hx; simp at hx; omega
  rw [mulL_comm q (xs s) hq (is01_xs s).isP j]
  unfold xs
  rw [mulL_snoc (List.replicate s 0) q 1 hz hq (by decide) j, List.length_replicate]
  have hn : Eqv (List.replicate s 0) [] := fun i => by
    unfold cf
    by_cases hi : i < s
    · simp [hi]
    · rw [List.getElem?_eq_none (by simp; omega)]; rfl
  rw [mulL_left q hz (by intro x hx; simp at hx) hq hn j]
  show 0 ^^^ _ = _
  rw [Nat.zero_xor]
  split
  · exact one_gmul _ (cf_lt hq _)
  · rfl
theorem modTo_end (r q : List Nat) (n d : Nat) (hr : Is01 r) (hq : Is01 q) (hn : (norm r).length = n + 1) (hd : (norm q).length = d + 1) (h : d ≤ n) :
    Eqv (modTo r q (n - d) (d + 1)) (addL r (mulL q (xs (n - d)))) ∧ (norm (modTo r q (n - d) (d + 1))).length ≤ n := by
  have hle := norm_length_le r
  have key : ∀ j, cf (modTo r q (n - d) (d + 1)) j = cf r j ^^^ (if n - d ≤ j then cf q (j - (n - d)) else 0) := fun j => by
    by_cases hj : j < r.length
    · rw [cf_modTo r q _ _ j hj]
      by_cases h1 : n - d ≤ j
      · rw [if_pos h1]
        by_cases h2 : j < n - d + (d + 1)
        · rw [if_pos ⟨h1, h2⟩]
        · rw [if_neg (by omega), norm_above q _ (by omega), Nat.xor_zero]
      · rw [if_neg (by omega), if_neg h1, Nat.xor_zero]
    · rw [cf_big _ _ (by rw [length_modTo]; omega), cf_big r j (by omega), Nat.zero_xor, if_pos (by omega), norm_above q _ (by omega)]
  refine ⟨fun j => by rw [key j, cf_addL, cf_mul_xs q _ j hq.isP], norm_len_le _ _ fun j hj => ?_⟩
  rw [key j, if_pos (by omega)]
  have l1 := norm_last r (by intro e; rw [e] at hn; simp at hn)
  have l2 := norm_last q (by intro e; rw [e] at hd; simp at hd)
  rw [cf_norm, hn, show n + 1 - 1 = n from rfl] at l1
  rw [cf_norm, hd, show d + 1 - 1 = d from rfl] at l2
  have b1 := hr.cf n
  have b2 := hq.cf d
  by_cases e : j = n
  · subst e
    rw [show j - (j - d) = d from by omega, show cf r j = 1 from by omega, show cf q d = 1 from by omega]
    rfl
  · rw [norm_above r j (by omega), norm_above q _ (by omega)]; rfl
/-- One round of Mod keeps what is left. -/
theorem mod_round {p q r : List Nat} {n d : Nat} (hq : Is01 q) (hr : Is01 r) (hn : (norm r).length = n + 1) (hd : (norm q).length = d + 1) (h : d ≤ n) (hb : ∃ c, Is01 c ∧ Eqv (addL (mulL q c) r) p) :
    ∃ c, Is01 c ∧ Eqv (addL (mulL q c) (modTo r q (n - d) (d + 1))) p := by
  obtain ⟨c, hc, e⟩ := hb
  refine ⟨addL c (xs (n - d)), is01_addL hc (is01_xs _), fun i => ?_⟩
  rw [cf_addL, mulL_add_right q c (xs (n - d)) i, cf_addL, (modTo_end r q n d hr hq hn hd h).1 i, cf_addL]
  have := e i
  rw [cf_addL] at this
  rw [← this, Nat.xor_comm (cf r i), Nat.xor_assoc, ← Nat.xor_assoc (cf (mulL q (xs (n - d))) i), Nat.xor_self, Nat.zero_xor]
theorem step01' {x b : Nat} (hx : x < 2) (hb : b < 2) : ((x ^^^ b : Nat) : Int) = ((x : Int) + (b : Int)) % 2 := xor_int hx hb

set_option maxHeartbeats 3200000 in
set_option maxRecDepth 100000 in
theorem refMod_any (a c : Option Addr) (len cap len' cap' : Nat) (p q : List Nat) (w : World) (hr : Row .i64 w a len cap (ints p)) (hp : Is01 p) (hr' : Row .i64 w c len' cap' (ints q)) (hq : Is01 q) (hqn : norm q ≠ []) (hsm : len ≤ 10000) (hsm' : len' ≤ 10000) :
    Calls Try.prog 30 #[.slice a len cap, .slice c len' cap'] w fun e w' => ∃ r v cp, IsMod p q r ∧ r.length = len ∧ e = .returned (.slice v len cp) ∧ Row .i64 w' v len cp (ints r) ∧ Below w.heap.size w w' := by
  obtain ⟨i0, hi0, hz0, hz1, hz2⟩ := info_parts Try.info3
  have HL : Hid (p.length = len) := by have := hr.hlen; rwa [length_ints] at this
  have HL' : Hid (q.length = len') := by have := hr'.hlen; rwa [length_ints] at this
  obtain ⟨d, hd⟩ : ∃ d, (norm q).length = d + 1 := ⟨(norm q).length - 1, by have := List.length_pos_iff.2 hqn; omega⟩
  have HD : Hid ((norm q).length = d + 1) := hd
  have HDi : Hid (((norm q).length : Int) - 1 = (d : Int)) := by show _ = _; omega
  have hdl : d < len' := by have := norm_length_le q; have := HL'.out; omega
  clear hd
  have HB0 : Hid (∃ c, Is01 c ∧ Eqv (addL (mulL q c) p) p) := ⟨[], fun x hx => absurd hx (by simp), fun i => by rw [cf_addL, mulL_nil q i]; show 0 ^^^ _ = _; rw [Nat.zero_xor]⟩
  go_enter Try.func30, Try.ntmps30
  go_wp2_with (at_builtin; refine wpList_append_row _ rfl _ _ 32 rfl w.heap.size 3 i0 (.int .i64 0) 8 Try.underlying32 hi0 hz0 hz1 hz2 rfl _ 0 [] rfl (World.ownsRow_nil _ _ _ _) .i64 a len cap _ rfl hr (by unfold maxLen; omega) (by omega) (Nat.le_refl _) ?_)
  intro v' w1 hown1 hgrow1
  have hb1 : Below w.heap.size w w1 := (Below.refl _ _).grown hgrow1 (Nat.le_refl _) (fun j hj => by simp [Value.ownBlock] at hj)
  clear hgrow1
  obtain ⟨ao, cp, rfl, hrow1⟩ := row_of_owns hown1
  have hrq := hr'.below hb1 (Nat.le_refl _)
  go_wp2_with fail
  refine (refDeg_any _ _ _ q _ hrq (by omega)).mono ?_
  rintro e w' ⟨rfl, rfl⟩
  rw [HDi.out]
  go_wp2_with fail
  refine (refDeg_any _ _ _ p _ hrow1 (by omega)).mono ?_
  rintro e w' ⟨rfl, rfl⟩
  go_wp2_with fail
  go_loopw [7, 8] (fun y _ wr => ∃ r : List Nat, ∃ m : Int, Is01 r ∧ r.length = len ∧ y = .int .i64 m ∧ m = ((norm r).length : Int) - 1 ∧ (∃ c, Is01 c ∧ Eqv (addL (mulL q c) r) p) ∧ wr.ownsRow w.heap.size 3 1 (.slice ao len cp) len ((ints r).map (Value.int .i64)) ∧ Below w.heap.size w wr) (fun y _ _ => (intOf y + 1).toNat)
  case atStart => exact ⟨p, _, hp, HL.out, rfl, rfl, HB0.out, hown1, hb1⟩
  case round =>
    clear hown1 hb1 hrow1 hrq
    obtain ⟨r, m, h01, hrl, rfl, hm, hback, hown, hnx⟩ := hrel
    have HRL : Hid (r.length = len) := hrl
    have HM : Hid (m = ((norm r).length : Int) - 1) := hm
    have HBK : Hid (∃ c, Is01 c ∧ Eqv (addL (mulL q c) r) p) := hback
    have hmb : -1 ≤ m ∧ m < (len : Int) := by have := norm_length_le r; omega
    clear hrl hm hback
    by_cases hge : (d : Int) ≤ m
    · obtain ⟨n, rfl⟩ := Int.eq_ofNat_of_zero_le (show 0 ≤ m by omega)
      have hnl : n < len := by omega
      have hdn : d ≤ n := by omega
      have HN : Hid ((norm r).length = n + 1) := by show _ = _; have := HM.out; omega
      obtain ⟨g, hg, rfl⟩ := owns_head hown (by omega)
      have HS : Hid (∀ k, k ≤ d → modTo r q (n - d) (k + 1) = (modTo r q (n - d) k).set (n - d + k) (cf (modTo r q (n - d) k) (n - d + k) ^^^ cf q k)) := fun k hk => modTo_step r q (n - d) k (by have := HRL.out; omega)
      have HE := modTo_end r q n d h01 hq HN.out HD.out hdn
      have HE1 : Hid ((norm (modTo r q (n - d) (d + 1))).length ≤ n) := HE.2
      clear HE
      go_wp2
      go_loopw [8] (fun y wr => ∃ k : Nat, k ≤ d + 1 ∧ y = .int .i64 k ∧ wr.ownsRow w.heap.size 3 1 (.slice (some ⟨g, 0, none⟩) len cp) len ((ints (modTo r q (n - d) k)).map (Value.int .i64)) ∧ Below w.heap.size w wr) (fun y _ => d + 1 - (intOf y).toNat)
      case atStart => exact ⟨0, Nat.zero_le _, rfl, by rw [modTo_zero]; exact hown, hnx⟩
      case round =>
        clear hown hnx
        obtain ⟨k, hk, rfl, hown, hnx⟩ := hrel
        by_cases hlt : k ≤ d
        · have hrr' := hr'.below hnx (Nat.le_refl _)
          obtain ⟨b', off', rfl, hbs', hcell'⟩ := hrr'.hcell (by omega)
          have hc2 := hcell' k (by omega)
          rw [ints_get] at hc2
          have hcl := owned_cell hown (n - d + k) (by omega)
          have hfz := hown.frozenAt (n - d + k)
          rw [ints_get] at hcl
          have c2 := hq.cf k
          have c4 := (is01_modTo h01 hq (n - d) k).cf (n - d + k)
          have hkk : (k : Int) < (len' : Int) := by omega
          have hkd : (k : Int) ≤ (d : Int) := by omega
          have hi0' : (0 : Int) ≤ (n : Int) - (d : Int) + (k : Int) := by omega
          have hi1' : (n : Int) - (d : Int) + (k : Int) < (len : Int) := by omega
          have hw1 : IntKind.i64.wrap ((n : Int) - (d : Int)) = (n : Int) - (d : Int) := by rw [IntKind.wrap_i64]; omega
          have hw2 : IntKind.i64.wrap ((n : Int) - (d : Int) + (k : Int)) = (n : Int) - (d : Int) + (k : Int) := by rw [IntKind.wrap_i64]; omega
          have hto : ((n : Int) - (d : Int) + (k : Int)).toNat = n - d + k := by omega
          have hik3 : n - d + k < len := by omega
          have R := owned_set (q := n - d + k) (x := ((cf (modTo r q (n - d) k) (n - d + k) : Int) + (cf q k : Int)) % 2) hg hown hnx
          have HE2 : Hid ((ints (modTo r q (n - d) k)).set (n - d + k) (((cf (modTo r q (n - d) k) (n - d + k) : Int) + (cf q k : Int)) % 2) = ints (modTo r q (n - d) (k + 1))) := by
            show _ = _
            rw [HS.out k hlt, ← step01' c4 c2]
            unfold ints
            rw [List.map_set]
          rw [HE2.out] at R
          have R' := And.intro R.1.drew R.2.drew
          have HRR : Hid _ := R'
          clear R R' hown hnx hcell' hrr' HE2
          generalize cf (modTo r q (n - d) k) (n - d + k) = x at *
          have hw3 : IntKind.i64.wrap ((x : Int) + (cf q k : Int)) = (x : Int) + (cf q k : Int) := by rw [IntKind.wrap_i64]; omega
          have hw4 : ((x : Int) + (cf q k : Int)).tmod 2 = ((x : Int) + (cf q k : Int)) % 2 := Int.tmod_eq_emod_of_nonneg (by omega)
          go_wp2
          go_region_with fail
          all_goals
            go_wp2
            go_roundw
            case rel => exact ⟨k + 1, by omega, by go_num, HRR.out.1, HRR.out.2⟩
            case measure => simp [intOf]; omega
        · have e : k = d + 1 := by omega
          subst e
          obtain ⟨a5, cp5, hv5, hrow5⟩ := row_of_owns hown
          simp only [Value.slice.injEq, true_and] at hv5
          obtain ⟨rfl, rfl⟩ := hv5
          have HB2 : Hid (∃ c, Is01 c ∧ Eqv (addL (mulL q c) (modTo r q (n - d) (d + 1))) p) := mod_round hq h01 HN.out HD.out hdn HBK.out
          have HL2 : Hid ((modTo r q (n - d) (d + 1)).length = len) := by show _ = _; rw [length_modTo]; exact HRL.out
          have h012 := is01_modTo h01 hq (n - d) (d + 1)
          generalize modTo r q (n - d) (d + 1) = r2 at *
          go_wp2_with fail
          refine (refDeg_any _ _ _ r2 _ hrow5 (by omega)).mono ?_
          rintro e w' ⟨rfl, rfl⟩
          go_wp2_with fail
          go_roundw
          case rel => exact ⟨r2, _, h012, HL2.out, rfl, rfl, HB2.out, hown, hnx⟩
          case measure => have := HE1.out; simp [intOf]; omega
    · have hlt : m < (d : Int) := by omega
      obtain ⟨a5, cp5, hv5, hrow5⟩ := row_of_owns hown
      simp only [Value.slice.injEq, true_and] at hv5
      obtain ⟨rfl, rfl⟩ := hv5
      have HSH : Hid ((norm r).length < (norm q).length) := by show _ < _; have := HM.out; have := HD.out; omega
      go_wp2
      go_ret
      have HMD : IsMod p q r := ⟨h01, HBK.out, HSH.out⟩
      first | exact ⟨r, HMD, HRL.out, _, _, rfl, hrow5, hnx⟩ | exact ⟨r, _, _, HMD, HRL.out, rfl, hrow5, hnx⟩

end Go.Proofs.Ytjiaomkjebbkpaa
