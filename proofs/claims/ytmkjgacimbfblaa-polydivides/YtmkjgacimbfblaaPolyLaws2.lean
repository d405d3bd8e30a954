/-
  The walks of layer 3's laws PolyDivides, PolyLengths, PolyTwice, out of the face of poly: each returns true; nothing old turns.
-/
import Derived.Test.YtmkjgacimbfblaaPolyLaws
namespace Go.Proofs.Ytmkjgacimbfblaa
open Go.RowKit
set_option linter.unusedVariables false

theorem IsDiv.len {p q r s : List Nat} (h : IsDiv p q r s) (hq : IsP q) : r.length ≤ p.length := by
  rcases Decidable.em (r = []) with e | e
  · rw [e]; exact Nat.zero_le _
  · have hqn : norm q ≠ [] := by intro e'; have := h.short; rw [e'] at this; simp at this
    have hrn : norm r ≠ [] := by rw [h.nr]; exact e
    have l1 : 0 < (norm q).length := List.length_pos_iff.2 hqn
    have l2 : 0 < r.length := List.length_pos_iff.2 e
    have hs := h.short
    obtain ⟨k1, _⟩ := mulL_deg q r ((norm q).length - 1) ((norm r).length - 1) hq h.hr (fun i hi => norm_above q i (by omega)) (fun i hi => norm_above r i (by omega))
    have n1 := norm_last q hqn
    have n2 := norm_last r hrn
    rw [cf_norm] at n1 n2
    have hne : cf p ((norm q).length - 1 + ((norm r).length - 1)) ≠ 0 := by
      rw [← h.back, cf_addL, k1, cf_big s _ (by omega), Nat.xor_zero]
      exact gmul_ne_zero _ _ (cf_lt hq _) (cf_lt h.hr _) n1 n2
    rcases Nat.lt_or_ge ((norm q).length - 1 + ((norm r).length - 1)) p.length with hl | hl
    · rw [h.nr] at hl; omega
    · exact absurd (cf_big p _ hl) hne
theorem IsDiv.norm_back {p q r s : List Nat} (h : IsDiv p q r s) (hq : IsP q) : norm (addL (norm (mulL (norm q) r)) s) = norm p :=
  norm_ext ((eqv_addL ((norm_eqv _).trans (mulL_left r (isP_norm hq) hq h.hr (norm_eqv q))) (Eqv.refl s)).trans h.back)
theorem mul_nil_left {p q : List Nat} (hp : IsP p) (hq : IsP q) (h : norm p = []) : norm (mulL p q) = [] := by
  have e : Eqv p [] := fun i => by rw [(norm_nil_iff p).1 h i]; rfl
  rw [norm_ext (mulL_left q hp (fun a ha => absurd ha (by simp)) hq e)]; rfl
theorem mul_nil_right {p q : List Nat} (h : norm q = []) : norm (mulL p q) = [] := by
  have e : Eqv q [] := fun i => by rw [(norm_nil_iff q).1 h i]; rfl
  rw [norm_ext ((mulL_right p e).trans (mulL_nil p))]; rfl
theorem div_mul {p q d r : List Nat} (hp : IsP p) (hq : IsP q) (hpn : norm p ≠ []) (h : IsDiv (norm (mulL p q)) p d r) : d = norm q ∧ r = [] := by
  have hu := IsDiv.unique' (p := norm (mulL p q)) (q := p) (r' := norm q) (s' := []) hp h.back ((addL_nil _).trans ((mulL_right p (norm_eqv q)).trans (norm_eqv _).symm)) h.hr (isP_norm hq) (by rw [h.ns]; exact h.short) (List.length_pos_iff.2 hpn)
  constructor
  · rw [← h.nr, norm_ext hu.1, norm_norm]
  · rw [← h.ns, norm_ext hu.2]; rfl
theorem der_sq {p : List Nat} (hp : IsP p) : norm (derL (norm (mulL p p))) = [] := by
  refine (norm_nil_iff _).2 fun i => ?_
  rw [eqv_derL (norm_eqv (mulL p p)) i, derL_mul p p hp hp i, cf_addL, mulL_comm (derL p) p (isP_derL hp) hp i, Nat.xor_self]
theorem add_self_nil (p : List Nat) : norm (addL p p) = [] := (norm_nil_iff _).2 fun i => addL_self p i
theorem der_sum (p q : List Nat) : norm (addL (norm (derL (norm (addL p q)))) (norm (addL (norm (derL p)) (norm (derL q))))) = [] := by
  refine (norm_nil_iff _).2 fun i => ?_
  rw [cf_addL, cf_norm, eqv_derL (norm_eqv (addL p q)) i, derL_add p q i, cf_norm, cf_addL, cf_addL, cf_norm, cf_norm, Nat.xor_self]
theorem div_rest {q r s z t : List Nat} (hq : IsP q) (hs : (norm s).length < (norm q).length) (hs' : norm s = s) (h : IsDiv s q z t) : z = [] ∧ t = s := by
  have hu := IsDiv.unique' (p := s) (q := q) (r' := []) (s' := s) hq h.back (fun i => by rw [cf_addL, mulL_nil q i, cf_nil, Nat.zero_xor]) h.hr (fun a ha => absurd ha (by simp)) (by rw [h.ns]; exact h.short) hs
  constructor
  · rw [← h.nr, norm_ext hu.1]; rfl
  · rw [← h.ns, norm_ext hu.2, hs']

set_option maxHeartbeats 3200000 in
set_option maxRecDepth 100000 in
theorem walk_polyDivides (hM : PMulC) (hD : DivC) (hE : EvalC) (a b : Option Addr) (l1 c1 l2 c2 : Nat) (xs ys : List Int) (w : World) (row_p : Row .i64 w a l1 c1 xs) (row_q : Row .i64 w b l2 c2 ys) :
    Calls Try.prog 4 #[.slice a l1 c1, .slice b l2 c2] w fun e w' => e = .returned (.bool true) ∧ Below w.heap.size w w' := by
  have m1 : l1 ≤ maxLen := Nat.le_trans row_p.hcap row_p.hmax
  have m2 : l2 ≤ maxLen := Nat.le_trans row_q.hcap row_q.hmax
  by_cases hs1 : l1 ≤ 60 ∧ l2 ≤ 60
  case neg =>
    have hb := small3_no hs1
    go_enter Try.func4, Try.ntmps4
    go_wp2_with fail
    refine (small3_any _ _ l1 _ l2 _ _ m1 m2).mono ?_
    rintro e w' ⟨rfl, rfl⟩
    rw [hb]
    go_wp2_with fail
    go_ret
    exact ⟨rfl, Below.refl _ _⟩
  have hb1 := small3_yes hs1.1 hs1.2
  cases hx : allE xs
  case false =>
    go_enter Try.func4, Try.ntmps4
    go_wp2_with fail
    refine (small3_any _ _ l1 _ l2 _ _ m1 m2).mono ?_
    rintro e w' ⟨rfl, rfl⟩
    rw [hb1]
    go_wp2_with fail
    refine (hD.no _ _ _ _ _ _ xs ys _ row_p row_q (by omega) (by omega) (by rw [hx]; rfl)).mono ?_
    rintro e wN ⟨a_d, cp_d, c_d, cq_d, rfl, _, _, q2⟩
    replace row_p := row_p.below q2 (Nat.le_refl _)
    replace row_q := row_q.below q2 (Nat.le_refl _)
    have q := q2
    clear q2
    go_wp2_with fail
    refine (isP_any _ _ _ xs _ row_p).mono ?_
    rintro e w' ⟨rfl, rfl⟩
    rw [hx]
    go_wp2_with fail
    refine (awake_any hM hD hE _).mono ?_
    rintro e wN ⟨rfl, q2⟩
    replace row_p := row_p.below q2 (Nat.le_refl _)
    replace row_q := row_q.below q2 (Nat.le_refl _)
    replace q := btrans q q2
    clear q2
    go_wp2_with fail
    go_ret
    exact ⟨rfl, q⟩
  cases hy : allE ys
  case false =>
    go_enter Try.func4, Try.ntmps4
    go_wp2_with fail
    refine (small3_any _ _ l1 _ l2 _ _ m1 m2).mono ?_
    rintro e w' ⟨rfl, rfl⟩
    rw [hb1]
    go_wp2_with fail
    refine (hD.no _ _ _ _ _ _ xs ys _ row_p row_q (by omega) (by omega) (by rw [hx, hy]; rfl)).mono ?_
    rintro e wN ⟨a_d, cp_d, c_d, cq_d, rfl, _, _, q2⟩
    replace row_p := row_p.below q2 (Nat.le_refl _)
    replace row_q := row_q.below q2 (Nat.le_refl _)
    have q := q2
    clear q2
    go_wp2_with fail
    refine (isP_any _ _ _ xs _ row_p).mono ?_
    rintro e w' ⟨rfl, rfl⟩
    rw [hx]
    go_wp2_with fail
    refine (isP_any _ _ _ ys _ row_q).mono ?_
    rintro e w' ⟨rfl, rfl⟩
    rw [hy]
    go_wp2_with fail
    refine (awake_any hM hD hE _).mono ?_
    rintro e wN ⟨rfl, q2⟩
    replace row_p := row_p.below q2 (Nat.le_refl _)
    replace row_q := row_q.below q2 (Nat.le_refl _)
    replace q := btrans q q2
    clear q2
    go_wp2_with fail
    go_ret
    exact ⟨rfl, q⟩
  obtain ⟨p, rfl, hp⟩ := allE_true hx
  obtain ⟨q', rfl, hq⟩ := allE_true hy
  have e1 := eq_len row_p
  have e2 := eq_len row_q
  have L1 : p.length ≤ 60 := by omega
  have L2 : q'.length ≤ 60 := by omega
  have Lp : l1 ≤ 10000 := by omega
  have Lq : l2 ≤ 10000 := by omega
  clear e1 e2
  rcases Decidable.em (norm q' = []) with h0 | h0
  case inl =>
    have H0 : Hid (norm q' = []) := h0
    go_enter Try.func4, Try.ntmps4
    go_wp2_with fail
    refine (small3_any _ _ l1 _ l2 _ _ m1 m2).mono ?_
    rintro e w' ⟨rfl, rfl⟩
    rw [hb1]
    go_wp2_with fail
    refine (hD.zero _ _ _ _ _ _ p q' _ row_p row_q Lp Lq hp hq h0).mono ?_
    rintro e wN ⟨a_d, cp_d, c_d, cq_d, rfl, _, _, q2⟩
    replace row_p := row_p.below q2 (Nat.le_refl _)
    replace row_q := row_q.below q2 (Nat.le_refl _)
    have q := q2
    clear q2
    clear h0
    go_wp2_with fail
    refine (isP_any _ _ _ (ints p) _ row_p).mono ?_
    rintro e w' ⟨rfl, rfl⟩
    rw [hx]
    go_wp2_with fail
    refine (isP_any _ _ _ (ints q') _ row_q).mono ?_
    rintro e w' ⟨rfl, rfl⟩
    rw [hy]
    have len_n := norm_length_le q'
    go_wp2_with fail
    refine (refNorm_any _ _ _ q' _ row_q (by omega)).mono ?_
    rintro e wN ⟨v_n, rfl, own_n, q2⟩
    obtain ⟨b_n, cp_n, rfl, row_n⟩ := row_of_owns own_n
    clear own_n
    replace row_p := row_p.below q2 (Nat.le_refl _)
    replace row_q := row_q.below q2 (Nat.le_refl _)
    replace q := btrans q q2
    clear q2
    rw [H0.out]
    go_wp2_with fail
    refine (awake_any hM hD hE _).mono ?_
    rintro e wN ⟨rfl, q2⟩
    replace row_p := row_p.below q2 (Nat.le_refl _)
    replace row_q := row_q.below q2 (Nat.le_refl _)
    replace row_n := row_n.below q2 (Nat.le_refl _)
    replace q := btrans q q2
    clear q2
    go_wp2_with fail
    go_ret
    exact ⟨rfl, q⟩
  have hl0 : 0 < (norm q').length := List.length_pos_iff.2 h0
  have hq0 : (((norm q').length : Int) == 0) = false := by simp; omega
  go_enter Try.func4, Try.ntmps4
  go_wp2_with fail
  refine (small3_any _ _ l1 _ l2 _ _ m1 m2).mono ?_
  rintro e w' ⟨rfl, rfl⟩
  rw [hb1]
  go_wp2_with fail
  refine (hD.yes _ _ _ _ _ _ p q' _ row_p row_q Lp Lq hp hq h0).mono ?_
  rintro e wN ⟨r, s, hdiv, a_d, cp_d, c_d, cq_d, rfl, row_a, row_b, q2⟩
  replace row_p := row_p.below q2 (Nat.le_refl _)
  replace row_q := row_q.below q2 (Nat.le_refl _)
  have q := q2
  clear q2
  have hlr := hdiv.len hq
  have hls := hdiv.short
  have hln := norm_length_le q'
  have hsl : (s.length : Int) < ((norm q').length : Int) := by omega
  have hir := hdiv.hr
  have his := hdiv.hs
  have H1 : Hid _ := hdiv.norm_back hq
  have H2 : Hid (norm r = r) := hdiv.nr
  have H3 : Hid (norm s = s) := hdiv.ns
  clear hdiv h0
  go_wp2_with fail
  refine (isP_any _ _ _ (ints p) _ row_p).mono ?_
  rintro e w' ⟨rfl, rfl⟩
  rw [hx]
  go_wp2_with fail
  refine (isP_any _ _ _ (ints q') _ row_q).mono ?_
  rintro e w' ⟨rfl, rfl⟩
  rw [hy]
  have len_n := norm_length_le q'
  go_wp2_with fail
  refine (refNorm_any _ _ _ q' _ row_q (by omega)).mono ?_
  rintro e wN ⟨v_n, rfl, own_n, q2⟩
  obtain ⟨b_n, cp_n, rfl, row_n⟩ := row_of_owns own_n
  clear own_n
  replace row_p := row_p.below q2 (Nat.le_refl _)
  replace row_q := row_q.below q2 (Nat.le_refl _)
  replace row_a := row_a.below q2 (Nat.le_refl _)
  replace row_b := row_b.below q2 (Nat.le_refl _)
  replace q := btrans q q2
  clear q2
  go_wp2_with fail
  refine (isP_any _ _ _ (ints r) _ row_a).mono ?_
  rintro e w' ⟨rfl, rfl⟩
  rw [show allE (ints r) = true from allE_ints hir]
  go_wp2_with fail
  refine (isP_any _ _ _ (ints s) _ row_b).mono ?_
  rintro e w' ⟨rfl, rfl⟩
  rw [show allE (ints s) = true from allE_ints his]
  have len_m := len_mul (norm q') r
  go_wp2_with fail
  refine (refMulP_any _ _ _ _ _ _ (norm q') r _ row_n (isP_norm hq) row_a hir (by omega) (by omega)).mono ?_
  rintro e wN ⟨v_m, rfl, own_m, q2⟩
  obtain ⟨b_m, cp_m, rfl, row_m⟩ := row_of_owns own_m
  clear own_m
  replace row_p := row_p.below q2 (Nat.le_refl _)
  replace row_q := row_q.below q2 (Nat.le_refl _)
  replace row_a := row_a.below q2 (Nat.le_refl _)
  replace row_b := row_b.below q2 (Nat.le_refl _)
  replace row_n := row_n.below q2 (Nat.le_refl _)
  replace q := btrans q q2
  clear q2
  have len_k := len_add (norm (mulL (norm q') r)) s
  go_wp2_with fail
  refine (refAdd_any _ _ _ _ _ _ (norm (mulL (norm q') r)) s _ row_m (isP_norm (isP_mulL _ (isP_norm hq))) row_b his (by omega) (by omega)).mono ?_
  rintro e wN ⟨v_k, rfl, own_k, q2⟩
  obtain ⟨b_k, cp_k, rfl, row_k⟩ := row_of_owns own_k
  clear own_k
  replace row_p := row_p.below q2 (Nat.le_refl _)
  replace row_q := row_q.below q2 (Nat.le_refl _)
  replace row_a := row_a.below q2 (Nat.le_refl _)
  replace row_b := row_b.below q2 (Nat.le_refl _)
  replace row_n := row_n.below q2 (Nat.le_refl _)
  replace row_m := row_m.below q2 (Nat.le_refl _)
  replace q := btrans q q2
  clear q2
  go_wp2_with fail
  refine (awake_any hM hD hE _).mono ?_
  rintro e wN ⟨rfl, q2⟩
  replace row_p := row_p.below q2 (Nat.le_refl _)
  replace row_q := row_q.below q2 (Nat.le_refl _)
  replace row_a := row_a.below q2 (Nat.le_refl _)
  replace row_b := row_b.below q2 (Nat.le_refl _)
  replace row_n := row_n.below q2 (Nat.le_refl _)
  replace row_m := row_m.below q2 (Nat.le_refl _)
  replace row_k := row_k.below q2 (Nat.le_refl _)
  replace q := btrans q q2
  clear q2
  have len_np := norm_length_le p
  go_wp2_with fail
  refine (refNorm_any _ _ _ p _ row_p (by omega)).mono ?_
  rintro e wN ⟨v_np, rfl, own_np, q2⟩
  obtain ⟨b_np, cp_np, rfl, row_np⟩ := row_of_owns own_np
  clear own_np
  replace row_p := row_p.below q2 (Nat.le_refl _)
  replace row_q := row_q.below q2 (Nat.le_refl _)
  replace row_a := row_a.below q2 (Nat.le_refl _)
  replace row_b := row_b.below q2 (Nat.le_refl _)
  replace row_n := row_n.below q2 (Nat.le_refl _)
  replace row_m := row_m.below q2 (Nat.le_refl _)
  replace row_k := row_k.below q2 (Nat.le_refl _)
  replace q := btrans q q2
  clear q2
  go_wp2_with fail
  refine (ints_any _ _ _ _ _ _ (ints (norm (addL (norm (mulL (norm q') r)) s))) (ints (norm p)) _ row_k row_np).mono ?_
  rintro e wN ⟨rfl, q2⟩
  replace row_p := row_p.below q2 (Nat.le_refl _)
  replace row_q := row_q.below q2 (Nat.le_refl _)
  replace row_a := row_a.below q2 (Nat.le_refl _)
  replace row_b := row_b.below q2 (Nat.le_refl _)
  replace row_n := row_n.below q2 (Nat.le_refl _)
  replace row_m := row_m.below q2 (Nat.le_refl _)
  replace row_k := row_k.below q2 (Nat.le_refl _)
  replace row_np := row_np.below q2 (Nat.le_refl _)
  replace q := btrans q q2
  clear q2
  rw [show decide (ints (norm (addL (norm (mulL (norm q') r)) s)) = ints (norm p)) = true from by rw [H1.out]; simp]
  have len_nr := norm_length_le r
  go_wp2_with fail
  refine (refNorm_any _ _ _ r _ row_a (by omega)).mono ?_
  rintro e wN ⟨v_nr, rfl, own_nr, q2⟩
  obtain ⟨b_nr, cp_nr, rfl, row_nr⟩ := row_of_owns own_nr
  clear own_nr
  replace row_p := row_p.below q2 (Nat.le_refl _)
  replace row_q := row_q.below q2 (Nat.le_refl _)
  replace row_a := row_a.below q2 (Nat.le_refl _)
  replace row_b := row_b.below q2 (Nat.le_refl _)
  replace row_n := row_n.below q2 (Nat.le_refl _)
  replace row_m := row_m.below q2 (Nat.le_refl _)
  replace row_k := row_k.below q2 (Nat.le_refl _)
  replace row_np := row_np.below q2 (Nat.le_refl _)
  replace q := btrans q q2
  clear q2
  go_wp2_with fail
  refine (ints_any _ _ _ _ _ _ (ints r) (ints (norm r)) _ row_a row_nr).mono ?_
  rintro e wN ⟨rfl, q2⟩
  replace row_p := row_p.below q2 (Nat.le_refl _)
  replace row_q := row_q.below q2 (Nat.le_refl _)
  replace row_a := row_a.below q2 (Nat.le_refl _)
  replace row_b := row_b.below q2 (Nat.le_refl _)
  replace row_n := row_n.below q2 (Nat.le_refl _)
  replace row_m := row_m.below q2 (Nat.le_refl _)
  replace row_k := row_k.below q2 (Nat.le_refl _)
  replace row_np := row_np.below q2 (Nat.le_refl _)
  replace row_nr := row_nr.below q2 (Nat.le_refl _)
  replace q := btrans q q2
  clear q2
  rw [show decide (ints r = ints (norm r)) = true from by rw [H2.out]; simp]
  have len_ns := norm_length_le s
  go_wp2_with fail
  refine (refNorm_any _ _ _ s _ row_b (by omega)).mono ?_
  rintro e wN ⟨v_ns, rfl, own_ns, q2⟩
  obtain ⟨b_ns, cp_ns, rfl, row_ns⟩ := row_of_owns own_ns
  clear own_ns
  replace row_p := row_p.below q2 (Nat.le_refl _)
  replace row_q := row_q.below q2 (Nat.le_refl _)
  replace row_a := row_a.below q2 (Nat.le_refl _)
  replace row_b := row_b.below q2 (Nat.le_refl _)
  replace row_n := row_n.below q2 (Nat.le_refl _)
  replace row_m := row_m.below q2 (Nat.le_refl _)
  replace row_k := row_k.below q2 (Nat.le_refl _)
  replace row_np := row_np.below q2 (Nat.le_refl _)
  replace row_nr := row_nr.below q2 (Nat.le_refl _)
  replace q := btrans q q2
  clear q2
  go_wp2_with fail
  refine (ints_any _ _ _ _ _ _ (ints s) (ints (norm s)) _ row_b row_ns).mono ?_
  rintro e wN ⟨rfl, q2⟩
  replace row_p := row_p.below q2 (Nat.le_refl _)
  replace row_q := row_q.below q2 (Nat.le_refl _)
  replace row_a := row_a.below q2 (Nat.le_refl _)
  replace row_b := row_b.below q2 (Nat.le_refl _)
  replace row_n := row_n.below q2 (Nat.le_refl _)
  replace row_m := row_m.below q2 (Nat.le_refl _)
  replace row_k := row_k.below q2 (Nat.le_refl _)
  replace row_np := row_np.below q2 (Nat.le_refl _)
  replace row_nr := row_nr.below q2 (Nat.le_refl _)
  replace row_ns := row_ns.below q2 (Nat.le_refl _)
  replace q := btrans q q2
  clear q2
  rw [show decide (ints s = ints (norm s)) = true from by rw [H3.out]; simp]
  go_wp2_with fail
  go_ret
  exact ⟨rfl, q⟩

set_option maxHeartbeats 3200000 in
set_option maxRecDepth 100000 in
theorem walk_polyLengths (hM : PMulC) (hD : DivC) (hE : EvalC) (a b : Option Addr) (l1 c1 l2 c2 : Nat) (xs ys : List Int) (w : World) (row_p : Row .i64 w a l1 c1 xs) (row_q : Row .i64 w b l2 c2 ys) :
    Calls Try.prog 8 #[.slice a l1 c1, .slice b l2 c2] w fun e w' => e = .returned (.bool true) ∧ Below w.heap.size w w' := by
  have m1 : l1 ≤ maxLen := Nat.le_trans row_p.hcap row_p.hmax
  have m2 : l2 ≤ maxLen := Nat.le_trans row_q.hcap row_q.hmax
  by_cases hs1 : l1 ≤ 60 ∧ l2 ≤ 60
  case neg =>
    have hb := small3_no hs1
    go_enter Try.func8, Try.ntmps8
    go_wp2_with fail
    refine (small3_any _ _ l1 _ l2 _ _ m1 m2).mono ?_
    rintro e w' ⟨rfl, rfl⟩
    rw [hb]
    go_wp2_with fail
    go_ret
    exact ⟨rfl, Below.refl _ _⟩
  have hb1 := small3_yes hs1.1 hs1.2
  cases hx : allE xs
  case false =>
    go_enter Try.func8, Try.ntmps8
    go_wp2_with fail
    refine (small3_any _ _ l1 _ l2 _ _ m1 m2).mono ?_
    rintro e w' ⟨rfl, rfl⟩
    rw [hb1]
    go_wp2_with fail
    refine (isP_any _ _ _ xs _ row_p).mono ?_
    rintro e w' ⟨rfl, rfl⟩
    rw [hx]
    go_wp2_with fail
    go_ret
    exact ⟨rfl, Below.refl _ _⟩
  cases hy : allE ys
  case false =>
    go_enter Try.func8, Try.ntmps8
    go_wp2_with fail
    refine (small3_any _ _ l1 _ l2 _ _ m1 m2).mono ?_
    rintro e w' ⟨rfl, rfl⟩
    rw [hb1]
    go_wp2_with fail
    refine (isP_any _ _ _ xs _ row_p).mono ?_
    rintro e w' ⟨rfl, rfl⟩
    rw [hx]
    go_wp2_with fail
    refine (isP_any _ _ _ ys _ row_q).mono ?_
    rintro e w' ⟨rfl, rfl⟩
    rw [hy]
    go_wp2_with fail
    go_ret
    exact ⟨rfl, Below.refl _ _⟩
  obtain ⟨p, rfl, hp⟩ := allE_true hx
  obtain ⟨q', rfl, hq⟩ := allE_true hy
  have e1 := eq_len row_p
  have e2 := eq_len row_q
  have L1 : p.length ≤ 60 := by omega
  have L2 : q'.length ≤ 60 := by omega
  have Lp : l1 ≤ 10000 := by omega
  have Lq : l2 ≤ 10000 := by omega
  clear e1 e2
  rcases Decidable.em (norm p = []) with h0 | h0
  case inl =>
    have H0 : Hid (norm p = []) := h0
    have H1 : Hid (norm (mulL p q') = []) := mul_nil_left hp hq h0
    clear h0
    go_enter Try.func8, Try.ntmps8
    go_wp2_with fail
    refine (small3_any _ _ l1 _ l2 _ _ m1 m2).mono ?_
    rintro e w' ⟨rfl, rfl⟩
    rw [hb1]
    go_wp2_with fail
    refine (isP_any _ _ _ (ints p) _ row_p).mono ?_
    rintro e w' ⟨rfl, rfl⟩
    rw [hx]
    go_wp2_with fail
    refine (isP_any _ _ _ (ints q') _ row_q).mono ?_
    rintro e w' ⟨rfl, rfl⟩
    rw [hy]
    have len_a := norm_length_le p
    go_wp2_with fail
    refine (refNorm_any _ _ _ p _ row_p (by omega)).mono ?_
    rintro e wN ⟨v_a, rfl, own_a, q2⟩
    obtain ⟨b_a, cp_a, rfl, row_a⟩ := row_of_owns own_a
    clear own_a
    replace row_p := row_p.below q2 (Nat.le_refl _)
    replace row_q := row_q.below q2 (Nat.le_refl _)
    have q := q2
    clear q2
    have len_b := norm_length_le q'
    go_wp2_with fail
    refine (refNorm_any _ _ _ q' _ row_q (by omega)).mono ?_
    rintro e wN ⟨v_b, rfl, own_b, q2⟩
    obtain ⟨b_b, cp_b, rfl, row_b⟩ := row_of_owns own_b
    clear own_b
    replace row_p := row_p.below q2 (Nat.le_refl _)
    replace row_q := row_q.below q2 (Nat.le_refl _)
    replace row_a := row_a.below q2 (Nat.le_refl _)
    replace q := btrans q q2
    clear q2
    have len_m := len_mul p q'
    go_wp2_with fail
    refine (mulp_any hM _ _ _ _ _ _ p q' _ row_p row_q (by omega) (by omega) hp hq).mono ?_
    rintro e wN ⟨b_m, cp_m, rfl, row_m, q2⟩
    replace row_p := row_p.below q2 (Nat.le_refl _)
    replace row_q := row_q.below q2 (Nat.le_refl _)
    replace row_a := row_a.below q2 (Nat.le_refl _)
    replace row_b := row_b.below q2 (Nat.le_refl _)
    replace q := btrans q q2
    clear q2
    rw [H0.out, H1.out]
    go_wp2_with fail
    refine (awake_any hM hD hE _).mono ?_
    rintro e wN ⟨rfl, q2⟩
    replace row_p := row_p.below q2 (Nat.le_refl _)
    replace row_q := row_q.below q2 (Nat.le_refl _)
    replace row_a := row_a.below q2 (Nat.le_refl _)
    replace row_b := row_b.below q2 (Nat.le_refl _)
    replace row_m := row_m.below q2 (Nat.le_refl _)
    replace q := btrans q q2
    clear q2
    go_wp2_with fail
    go_ret
    exact ⟨rfl, q⟩
  rcases Decidable.em (norm q' = []) with h1 | h1
  case inl =>
    have H0 : Hid (norm q' = []) := h1
    have H1 : Hid (norm (mulL p q') = []) := mul_nil_right h1
    have hl0 : 0 < (norm p).length := List.length_pos_iff.2 h0
    have hq0 : (((norm p).length : Int) == 0) = false := by simp; omega
    clear h1 h0
    go_enter Try.func8, Try.ntmps8
    go_wp2_with fail
    refine (small3_any _ _ l1 _ l2 _ _ m1 m2).mono ?_
    rintro e w' ⟨rfl, rfl⟩
    rw [hb1]
    go_wp2_with fail
    refine (isP_any _ _ _ (ints p) _ row_p).mono ?_
    rintro e w' ⟨rfl, rfl⟩
    rw [hx]
    go_wp2_with fail
    refine (isP_any _ _ _ (ints q') _ row_q).mono ?_
    rintro e w' ⟨rfl, rfl⟩
    rw [hy]
    have len_a := norm_length_le p
    go_wp2_with fail
    refine (refNorm_any _ _ _ p _ row_p (by omega)).mono ?_
    rintro e wN ⟨v_a, rfl, own_a, q2⟩
    obtain ⟨b_a, cp_a, rfl, row_a⟩ := row_of_owns own_a
    clear own_a
    replace row_p := row_p.below q2 (Nat.le_refl _)
    replace row_q := row_q.below q2 (Nat.le_refl _)
    have q := q2
    clear q2
    have len_b := norm_length_le q'
    go_wp2_with fail
    refine (refNorm_any _ _ _ q' _ row_q (by omega)).mono ?_
    rintro e wN ⟨v_b, rfl, own_b, q2⟩
    obtain ⟨b_b, cp_b, rfl, row_b⟩ := row_of_owns own_b
    clear own_b
    replace row_p := row_p.below q2 (Nat.le_refl _)
    replace row_q := row_q.below q2 (Nat.le_refl _)
    replace row_a := row_a.below q2 (Nat.le_refl _)
    replace q := btrans q q2
    clear q2
    have len_m := len_mul p q'
    go_wp2_with fail
    refine (mulp_any hM _ _ _ _ _ _ p q' _ row_p row_q (by omega) (by omega) hp hq).mono ?_
    rintro e wN ⟨b_m, cp_m, rfl, row_m, q2⟩
    replace row_p := row_p.below q2 (Nat.le_refl _)
    replace row_q := row_q.below q2 (Nat.le_refl _)
    replace row_a := row_a.below q2 (Nat.le_refl _)
    replace row_b := row_b.below q2 (Nat.le_refl _)
    replace q := btrans q q2
    clear q2
    rw [H0.out, H1.out]
    go_wp2_with fail
    refine (awake_any hM hD hE _).mono ?_
    rintro e wN ⟨rfl, q2⟩
    replace row_p := row_p.below q2 (Nat.le_refl _)
    replace row_q := row_q.below q2 (Nat.le_refl _)
    replace row_a := row_a.below q2 (Nat.le_refl _)
    replace row_b := row_b.below q2 (Nat.le_refl _)
    replace row_m := row_m.below q2 (Nat.le_refl _)
    replace q := btrans q q2
    clear q2
    go_wp2_with fail
    go_ret
    exact ⟨rfl, q⟩
  have hl0 : 0 < (norm p).length := List.length_pos_iff.2 h0
  have hl1 : 0 < (norm q').length := List.length_pos_iff.2 h1
  have hq0 : (((norm p).length : Int) == 0) = false := by simp; omega
  have hq1 : (((norm q').length : Int) == 0) = false := by simp; omega
  have hlm := mulL_length p q' hp hq h0 h1
  have hlm' : (((norm (mulL p q')).length : Int) == ((norm p).length : Int) + ((norm q').length : Int) - 1) = true := by simp; omega
  clear hlm
  have HD : Hid (∀ d r, IsDiv (norm (mulL p q')) p d r → d = norm q' ∧ r = []) := fun d r h => div_mul hp hq h0 h
  have hlp := norm_length_le p
  have hlq := norm_length_le q'
  go_enter Try.func8, Try.ntmps8
  go_wp2_with fail
  refine (small3_any _ _ l1 _ l2 _ _ m1 m2).mono ?_
  rintro e w' ⟨rfl, rfl⟩
  rw [hb1]
  go_wp2_with fail
  refine (isP_any _ _ _ (ints p) _ row_p).mono ?_
  rintro e w' ⟨rfl, rfl⟩
  rw [hx]
  go_wp2_with fail
  refine (isP_any _ _ _ (ints q') _ row_q).mono ?_
  rintro e w' ⟨rfl, rfl⟩
  rw [hy]
  have len_a := norm_length_le p
  go_wp2_with fail
  refine (refNorm_any _ _ _ p _ row_p (by omega)).mono ?_
  rintro e wN ⟨v_a, rfl, own_a, q2⟩
  obtain ⟨b_a, cp_a, rfl, row_a⟩ := row_of_owns own_a
  clear own_a
  replace row_p := row_p.below q2 (Nat.le_refl _)
  replace row_q := row_q.below q2 (Nat.le_refl _)
  have q := q2
  clear q2
  have len_b := norm_length_le q'
  go_wp2_with fail
  refine (refNorm_any _ _ _ q' _ row_q (by omega)).mono ?_
  rintro e wN ⟨v_b, rfl, own_b, q2⟩
  obtain ⟨b_b, cp_b, rfl, row_b⟩ := row_of_owns own_b
  clear own_b
  replace row_p := row_p.below q2 (Nat.le_refl _)
  replace row_q := row_q.below q2 (Nat.le_refl _)
  replace row_a := row_a.below q2 (Nat.le_refl _)
  replace q := btrans q q2
  clear q2
  have len_m := len_mul p q'
  go_wp2_with fail
  refine (mulp_any hM _ _ _ _ _ _ p q' _ row_p row_q (by omega) (by omega) hp hq).mono ?_
  rintro e wN ⟨b_m, cp_m, rfl, row_m, q2⟩
  replace row_p := row_p.below q2 (Nat.le_refl _)
  replace row_q := row_q.below q2 (Nat.le_refl _)
  replace row_a := row_a.below q2 (Nat.le_refl _)
  replace row_b := row_b.below q2 (Nat.le_refl _)
  replace q := btrans q q2
  clear q2
  go_wp2_with fail
  refine (hD.yes _ _ _ _ _ _ (norm (mulL p q')) p _ row_m row_p (by omega) Lp (isP_norm (isP_mulL _ hp)) hp h0).mono ?_
  rintro e wN ⟨r, s, hdiv, a_d, cp_d, c_d, cq_d, rfl, row_d, _, q2⟩
  obtain ⟨rfl, rfl⟩ := HD.out r s hdiv
  clear hdiv h0 h1
  replace row_p := row_p.below q2 (Nat.le_refl _)
  replace row_q := row_q.below q2 (Nat.le_refl _)
  replace row_a := row_a.below q2 (Nat.le_refl _)
  replace row_b := row_b.below q2 (Nat.le_refl _)
  replace row_m := row_m.below q2 (Nat.le_refl _)
  replace q := btrans q q2
  clear q2
  go_wp2_with fail
  refine (awake_any hM hD hE _).mono ?_
  rintro e wN ⟨rfl, q2⟩
  replace row_p := row_p.below q2 (Nat.le_refl _)
  replace row_q := row_q.below q2 (Nat.le_refl _)
  replace row_a := row_a.below q2 (Nat.le_refl _)
  replace row_b := row_b.below q2 (Nat.le_refl _)
  replace row_m := row_m.below q2 (Nat.le_refl _)
  replace row_d := row_d.below q2 (Nat.le_refl _)
  replace q := btrans q q2
  clear q2
  go_wp2_with fail
  refine (ints_any _ _ _ _ _ _ (ints (norm q')) (ints (norm q')) _ row_d row_b).mono ?_
  rintro e wN ⟨rfl, q2⟩
  replace row_p := row_p.below q2 (Nat.le_refl _)
  replace row_q := row_q.below q2 (Nat.le_refl _)
  replace row_a := row_a.below q2 (Nat.le_refl _)
  replace row_b := row_b.below q2 (Nat.le_refl _)
  replace row_m := row_m.below q2 (Nat.le_refl _)
  replace row_d := row_d.below q2 (Nat.le_refl _)
  replace q := btrans q q2
  clear q2
  rw [show decide (ints (norm q') = ints (norm q')) = true from by rw [show norm q' = norm q' from rfl]; simp]
  go_wp2_with fail
  go_ret
  exact ⟨rfl, q⟩

end Go.Proofs.Ytmkjgacimbfblaa
