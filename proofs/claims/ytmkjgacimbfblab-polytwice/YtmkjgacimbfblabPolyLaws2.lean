/-
  The walks of layer 3's laws PolyDivides, PolyLengths, PolyTwice, out of the face of poly: each returns true; nothing old turns.
-/
import Derived.Test.YtmkjgacimbfblabPolyLaws
namespace Go.Proofs.Ytmkjgacimbfblab
open Go.RowKit
set_option linter.unusedVariables false

theorem IsDiv.len {p q r s : List Nat} (h : IsDiv p q r s) (hq : IsP q) : r.length ≤ p.length := by
  rcases Decidable.em (r = []) with e | e
  · rw [e]; exact Nat.zero_le _
  · have hqn : norm q ≠ [] := by intro e'; have := h.short; rw [e'] at this; simp at this
    have hrn : norm r ≠ [] := by rw [h.nr]; exact e
    have l1 : 0 < (norm q).length := List.length_pos_iff.2 hqn
    have l2 : 0 < r.length := List.length_pos_iff.2 e
    have hs := h.short
    obtain ⟨k1, _⟩ := mulL_deg q r ((norm q).length - 1) ((norm r).length - 1) hq h.hr (fun i hi => norm_above q i (by omega)) (fun i hi => norm_above r i (by omega))
    have n1 := norm_last q hqn
    have n2 := norm_last r hrn
    rw [cf_norm] at n1 n2
    have hne : cf p ((norm q).length - 1 + ((norm r).length - 1)) ≠ 0 := by
      rw [← h.back, cf_addL, k1, cf_big s _ (by omega), Nat.xor_zero]
      exact gmul_ne_zero _ _ (cf_lt hq _) (cf_lt h.hr _) n1 n2
    rcases Nat.lt_or_ge ((norm q).length - 1 + ((norm r).length - 1)) p.length with hl | hl
    · rw [h.nr] at hl; omega
    · exact absurd (cf_big p _ hl) hne
theorem IsDiv.norm_back {p q r s : List Nat} (h : IsDiv p q r s) (hq : IsP q) : norm (addL (norm (mulL (norm q) r)) s) = norm p :=
  norm_ext ((eqv_addL ((norm_eqv _).trans (mulL_left r (isP_norm hq) hq h.hr (norm_eqv q))) (Eqv.refl s)).trans h.back)
theorem mul_nil_left {p q : List Nat} (hp : IsP p) (hq : IsP q) (h : norm p = []) : norm (mulL p q) = [] := by
  have e : Eqv p [] := fun i => by rw [(norm_nil_iff p).1 h i]; rfl
  rw [norm_ext (mulL_left q hp (fun a ha => absurd ha (by simp)) hq e)]; rfl
theorem mul_nil_right {p q : List Nat} (h : norm q = []) : norm (mulL p q) = [] := by
  have e : Eqv q [] := fun i => by rw [(norm_nil_iff q).1 h i]; rfl
  rw [norm_ext ((mulL_right p e).trans (mulL_nil p))]; rfl
theorem div_mul {p q d r : List Nat} (hp : IsP p) (hq : IsP q) (hpn : norm p ≠ []) (h : IsDiv (norm (mulL p q)) p d r) : d = norm q ∧ r = [] := by
  have hu := IsDiv.unique' (p := norm (mulL p q)) (q := p) (r' := norm q) (s' := []) hp h.back ((addL_nil _).trans ((mulL_right p (norm_eqv q)).trans (norm_eqv _).symm)) h.hr (isP_norm hq) (by rw [h.ns]; exact h.short) (List.length_pos_iff.2 hpn)
  constructor
  · rw [← h.nr, norm_ext hu.1, norm_norm]
  · rw [← h.ns, norm_ext hu.2]; rfl
theorem der_sq {p : List Nat} (hp : IsP p) : norm (derL (norm (mulL p p))) = [] := by
  refine (norm_nil_iff _).2 fun i => ?_
  rw [eqv_derL (norm_eqv (mulL p p)) i, derL_mul p p hp hp i, cf_addL, mulL_comm (derL p) p (isP_derL hp) hp i, Nat.xor_self]
theorem add_self_nil (p : List Nat) : norm (addL p p) = [] := (norm_nil_iff _).2 fun i => addL_self p i
theorem der_sum (p q : List Nat) : norm (addL (norm (derL (norm (addL p q)))) (norm (addL (norm (derL p)) (norm (derL q))))) = [] := by
  refine (norm_nil_iff _).2 fun i => ?_
  rw [cf_addL, cf_norm, eqv_derL (norm_eqv (addL p q)) i, derL_add p q i, cf_norm, cf_addL, cf_addL, cf_norm, cf_norm, Nat.xor_self]
theorem div_rest {q r s z t : List Nat} (hq : IsP q) (hs : (norm s).length < (norm q).length) (hs' : norm s = s) (h : IsDiv s q z t) : z = [] ∧ t = s := by
  have hu := IsDiv.unique' (p := s) (q := q) (r' := []) (s' := s) hq h.back (fun i => by rw [cf_addL, mulL_nil q i, cf_nil, Nat.zero_xor]) h.hr (fun a ha => absurd ha (by simp)) (by rw [h.ns]; exact h.short) hs
  constructor
  · rw [← h.nr, norm_ext hu.1]; rfl
  · rw [← h.ns, norm_ext hu.2, hs']

set_option maxHeartbeats 3200000 in
set_option maxRecDepth 100000 in
theorem walk_polyTwice (hA : AddC) (hM : PMulC) (hD : DivC) (hE : EvalC) (hR : DeriveC) (a b : Option Addr) (l1 c1 l2 c2 : Nat) (xs ys : List Int) (w : World) (row_p : Row .i64 w a l1 c1 xs) (row_q : Row .i64 w b l2 c2 ys) :
    Calls Try.prog 3 #[.slice a l1 c1, .slice b l2 c2] w fun e w' => e = .returned (.bool true) ∧ Below w.heap.size w w' := by
  have m1 : l1 ≤ maxLen := Nat.le_trans row_p.hcap row_p.hmax
  have m2 : l2 ≤ maxLen := Nat.le_trans row_q.hcap row_q.hmax
  by_cases hs1 : l1 ≤ 60 ∧ l2 ≤ 60
  case neg =>
    have hb := small3_no hs1
    go_enter Try.func3, Try.ntmps3
    go_wp2_with fail
    refine (small3_any _ _ l1 _ l2 _ _ m1 m2).mono ?_
    rintro e w' ⟨rfl, rfl⟩
    rw [hb]
    go_wp2_with fail
    go_ret
    exact ⟨rfl, Below.refl _ _⟩
  have hb1 := small3_yes hs1.1 hs1.2
  cases hx : allE xs
  case false =>
    go_enter Try.func3, Try.ntmps3
    go_wp2_with fail
    refine (small3_any _ _ l1 _ l2 _ _ m1 m2).mono ?_
    rintro e w' ⟨rfl, rfl⟩
    rw [hb1]
    go_wp2_with fail
    refine (isP_any _ _ _ xs _ row_p).mono ?_
    rintro e w' ⟨rfl, rfl⟩
    rw [hx]
    go_wp2_with fail
    go_ret
    exact ⟨rfl, Below.refl _ _⟩
  cases hy : allE ys
  case false =>
    go_enter Try.func3, Try.ntmps3
    go_wp2_with fail
    refine (small3_any _ _ l1 _ l2 _ _ m1 m2).mono ?_
    rintro e w' ⟨rfl, rfl⟩
    rw [hb1]
    go_wp2_with fail
    refine (isP_any _ _ _ xs _ row_p).mono ?_
    rintro e w' ⟨rfl, rfl⟩
    rw [hx]
    go_wp2_with fail
    refine (isP_any _ _ _ ys _ row_q).mono ?_
    rintro e w' ⟨rfl, rfl⟩
    rw [hy]
    go_wp2_with fail
    go_ret
    exact ⟨rfl, Below.refl _ _⟩
  obtain ⟨p, rfl, hp⟩ := allE_true hx
  obtain ⟨q', rfl, hq⟩ := allE_true hy
  have e1 := eq_len row_p
  have e2 := eq_len row_q
  have L1 : p.length ≤ 60 := by omega
  have L2 : q'.length ≤ 60 := by omega
  have Lp : l1 ≤ 10000 := by omega
  have Lq : l2 ≤ 10000 := by omega
  clear e1 e2
  have H1 : Hid (norm (derL (norm (mulL p p))) = []) := der_sq hp
  have H2 : Hid (norm (addL p p) = []) := add_self_nil p
  have H3 : Hid _ := der_sum p q'
  rcases Decidable.em (norm q' = []) with h0 | h0
  case inl =>
    go_enter Try.func3, Try.ntmps3
    go_wp2_with fail
    refine (small3_any _ _ l1 _ l2 _ _ m1 m2).mono ?_
    rintro e w' ⟨rfl, rfl⟩
    rw [hb1]
    go_wp2_with fail
    refine (isP_any _ _ _ (ints p) _ row_p).mono ?_
    rintro e w' ⟨rfl, rfl⟩
    rw [hx]
    go_wp2_with fail
    refine (isP_any _ _ _ (ints q') _ row_q).mono ?_
    rintro e w' ⟨rfl, rfl⟩
    rw [hy]
    have len_a := len_der p
    go_wp2_with fail
    refine (hR.yes _ _ _ p _ row_p (by omega) hp).mono ?_
    rintro e wN ⟨b_a, cp_a, rfl, row_a, q2⟩
    replace row_p := row_p.below q2 (Nat.le_refl _)
    replace row_q := row_q.below q2 (Nat.le_refl _)
    have q := q2
    clear q2
    have len_b := len_der q'
    go_wp2_with fail
    refine (hR.yes _ _ _ q' _ row_q (by omega) hq).mono ?_
    rintro e wN ⟨b_b, cp_b, rfl, row_b, q2⟩
    replace row_p := row_p.below q2 (Nat.le_refl _)
    replace row_q := row_q.below q2 (Nat.le_refl _)
    replace row_a := row_a.below q2 (Nat.le_refl _)
    replace q := btrans q q2
    clear q2
    have len_u := len_add p q'
    go_wp2_with fail
    refine (addp_any hA _ _ _ _ _ _ p q' _ row_p row_q (by omega) (by omega) hp hq).mono ?_
    rintro e wN ⟨b_u, cp_u, rfl, row_u, q2⟩
    replace row_p := row_p.below q2 (Nat.le_refl _)
    replace row_q := row_q.below q2 (Nat.le_refl _)
    replace row_a := row_a.below q2 (Nat.le_refl _)
    replace row_b := row_b.below q2 (Nat.le_refl _)
    replace q := btrans q q2
    clear q2
    have len_c := len_der (norm (addL p q'))
    go_wp2_with fail
    refine (hR.yes _ _ _ (norm (addL p q')) _ row_u (by omega) (isP_norm (isP_addL hp hq))).mono ?_
    rintro e wN ⟨b_c, cp_c, rfl, row_c, q2⟩
    replace row_p := row_p.below q2 (Nat.le_refl _)
    replace row_q := row_q.below q2 (Nat.le_refl _)
    replace row_a := row_a.below q2 (Nat.le_refl _)
    replace row_b := row_b.below q2 (Nat.le_refl _)
    replace row_u := row_u.below q2 (Nat.le_refl _)
    replace q := btrans q q2
    clear q2
    have len_v := len_mul p p
    go_wp2_with fail
    refine (mulp_any hM _ _ _ _ _ _ p p _ row_p row_p (by omega) (by omega) hp hp).mono ?_
    rintro e wN ⟨b_v, cp_v, rfl, row_v, q2⟩
    replace row_p := row_p.below q2 (Nat.le_refl _)
    replace row_q := row_q.below q2 (Nat.le_refl _)
    replace row_a := row_a.below q2 (Nat.le_refl _)
    replace row_b := row_b.below q2 (Nat.le_refl _)
    replace row_u := row_u.below q2 (Nat.le_refl _)
    replace row_c := row_c.below q2 (Nat.le_refl _)
    replace q := btrans q q2
    clear q2
    have len_d := len_der (norm (mulL p p))
    go_wp2_with fail
    refine (hR.yes _ _ _ (norm (mulL p p)) _ row_v (by omega) (isP_norm (isP_mulL _ hp))).mono ?_
    rintro e wN ⟨b_d, cp_d, rfl, row_d, q2⟩
    replace row_p := row_p.below q2 (Nat.le_refl _)
    replace row_q := row_q.below q2 (Nat.le_refl _)
    replace row_a := row_a.below q2 (Nat.le_refl _)
    replace row_b := row_b.below q2 (Nat.le_refl _)
    replace row_u := row_u.below q2 (Nat.le_refl _)
    replace row_c := row_c.below q2 (Nat.le_refl _)
    replace row_v := row_v.below q2 (Nat.le_refl _)
    replace q := btrans q q2
    clear q2
    have len_x := len_add p p
    go_wp2_with fail
    refine (addp_any hA _ _ _ _ _ _ p p _ row_p row_p (by omega) (by omega) hp hp).mono ?_
    rintro e wN ⟨b_x, cp_x, rfl, row_x, q2⟩
    replace row_p := row_p.below q2 (Nat.le_refl _)
    replace row_q := row_q.below q2 (Nat.le_refl _)
    replace row_a := row_a.below q2 (Nat.le_refl _)
    replace row_b := row_b.below q2 (Nat.le_refl _)
    replace row_u := row_u.below q2 (Nat.le_refl _)
    replace row_c := row_c.below q2 (Nat.le_refl _)
    replace row_v := row_v.below q2 (Nat.le_refl _)
    replace row_d := row_d.below q2 (Nat.le_refl _)
    replace q := btrans q q2
    clear q2
    rw [H1.out, H2.out]
    have len_y := len_add (norm (derL p)) (norm (derL q'))
    go_wp2_with fail
    refine (addp_any hA _ _ _ _ _ _ (norm (derL p)) (norm (derL q')) _ row_a row_b (by omega) (by omega) (isP_norm (isP_derL hp)) (isP_norm (isP_derL hq))).mono ?_
    rintro e wN ⟨b_y, cp_y, rfl, row_y, q2⟩
    replace row_p := row_p.below q2 (Nat.le_refl _)
    replace row_q := row_q.below q2 (Nat.le_refl _)
    replace row_a := row_a.below q2 (Nat.le_refl _)
    replace row_b := row_b.below q2 (Nat.le_refl _)
    replace row_u := row_u.below q2 (Nat.le_refl _)
    replace row_c := row_c.below q2 (Nat.le_refl _)
    replace row_v := row_v.below q2 (Nat.le_refl _)
    replace row_d := row_d.below q2 (Nat.le_refl _)
    replace row_x := row_x.below q2 (Nat.le_refl _)
    replace q := btrans q q2
    clear q2
    have len_z := len_add (norm (derL (norm (addL p q')))) (norm (addL (norm (derL p)) (norm (derL q'))))
    go_wp2_with fail
    refine (addp_any hA _ _ _ _ _ _ (norm (derL (norm (addL p q')))) (norm (addL (norm (derL p)) (norm (derL q')))) _ row_c row_y (by omega) (by omega) (isP_norm (isP_derL (isP_norm (isP_addL hp hq)))) (isP_norm (isP_addL (isP_norm (isP_derL hp)) (isP_norm (isP_derL hq))))).mono ?_
    rintro e wN ⟨b_z, cp_z, rfl, row_z, q2⟩
    replace row_p := row_p.below q2 (Nat.le_refl _)
    replace row_q := row_q.below q2 (Nat.le_refl _)
    replace row_a := row_a.below q2 (Nat.le_refl _)
    replace row_b := row_b.below q2 (Nat.le_refl _)
    replace row_u := row_u.below q2 (Nat.le_refl _)
    replace row_c := row_c.below q2 (Nat.le_refl _)
    replace row_v := row_v.below q2 (Nat.le_refl _)
    replace row_d := row_d.below q2 (Nat.le_refl _)
    replace row_x := row_x.below q2 (Nat.le_refl _)
    replace row_y := row_y.below q2 (Nat.le_refl _)
    replace q := btrans q q2
    clear q2
    rw [H3.out]
    clear row_a row_b row_u row_c row_v row_d row_x row_y row_z
    go_wp2_with fail
    refine (hD.zero _ _ _ _ _ _ p q' _ row_p row_q Lp Lq hp hq h0).mono ?_
    rintro e wN ⟨a_d, cp_d, c_d, cq_d, rfl, _, _, q2⟩
    replace row_p := row_p.below q2 (Nat.le_refl _)
    replace row_q := row_q.below q2 (Nat.le_refl _)
    replace q := btrans q q2
    clear q2
    clear h0
    go_wp2_with fail
    refine (awake_any hM hD hE _).mono ?_
    rintro e wN ⟨rfl, q2⟩
    replace row_p := row_p.below q2 (Nat.le_refl _)
    replace row_q := row_q.below q2 (Nat.le_refl _)
    replace q := btrans q q2
    clear q2
    go_wp2_with fail
    go_ret
    exact ⟨rfl, q⟩
  go_enter Try.func3, Try.ntmps3
  go_wp2_with fail
  refine (small3_any _ _ l1 _ l2 _ _ m1 m2).mono ?_
  rintro e w' ⟨rfl, rfl⟩
  rw [hb1]
  go_wp2_with fail
  refine (isP_any _ _ _ (ints p) _ row_p).mono ?_
  rintro e w' ⟨rfl, rfl⟩
  rw [hx]
  go_wp2_with fail
  refine (isP_any _ _ _ (ints q') _ row_q).mono ?_
  rintro e w' ⟨rfl, rfl⟩
  rw [hy]
  have len_a := len_der p
  go_wp2_with fail
  refine (hR.yes _ _ _ p _ row_p (by omega) hp).mono ?_
  rintro e wN ⟨b_a, cp_a, rfl, row_a, q2⟩
  replace row_p := row_p.below q2 (Nat.le_refl _)
  replace row_q := row_q.below q2 (Nat.le_refl _)
  have q := q2
  clear q2
  have len_b := len_der q'
  go_wp2_with fail
  refine (hR.yes _ _ _ q' _ row_q (by omega) hq).mono ?_
  rintro e wN ⟨b_b, cp_b, rfl, row_b, q2⟩
  replace row_p := row_p.below q2 (Nat.le_refl _)
  replace row_q := row_q.below q2 (Nat.le_refl _)
  replace row_a := row_a.below q2 (Nat.le_refl _)
  replace q := btrans q q2
  clear q2
  have len_u := len_add p q'
  go_wp2_with fail
  refine (addp_any hA _ _ _ _ _ _ p q' _ row_p row_q (by omega) (by omega) hp hq).mono ?_
  rintro e wN ⟨b_u, cp_u, rfl, row_u, q2⟩
  replace row_p := row_p.below q2 (Nat.le_refl _)
  replace row_q := row_q.below q2 (Nat.le_refl _)
  replace row_a := row_a.below q2 (Nat.le_refl _)
  replace row_b := row_b.below q2 (Nat.le_refl _)
  replace q := btrans q q2
  clear q2
  have len_c := len_der (norm (addL p q'))
  go_wp2_with fail
  refine (hR.yes _ _ _ (norm (addL p q')) _ row_u (by omega) (isP_norm (isP_addL hp hq))).mono ?_
  rintro e wN ⟨b_c, cp_c, rfl, row_c, q2⟩
  replace row_p := row_p.below q2 (Nat.le_refl _)
  replace row_q := row_q.below q2 (Nat.le_refl _)
  replace row_a := row_a.below q2 (Nat.le_refl _)
  replace row_b := row_b.below q2 (Nat.le_refl _)
  replace row_u := row_u.below q2 (Nat.le_refl _)
  replace q := btrans q q2
  clear q2
  have len_v := len_mul p p
  go_wp2_with fail
  refine (mulp_any hM _ _ _ _ _ _ p p _ row_p row_p (by omega) (by omega) hp hp).mono ?_
  rintro e wN ⟨b_v, cp_v, rfl, row_v, q2⟩
  replace row_p := row_p.below q2 (Nat.le_refl _)
  replace row_q := row_q.below q2 (Nat.le_refl _)
  replace row_a := row_a.below q2 (Nat.le_refl _)
  replace row_b := row_b.below q2 (Nat.le_refl _)
  replace row_u := row_u.below q2 (Nat.le_refl _)
  replace row_c := row_c.below q2 (Nat.le_refl _)
  replace q := btrans q q2
  clear q2
  have len_d := len_der (norm (mulL p p))
  go_wp2_with fail
  refine (hR.yes _ _ _ (norm (mulL p p)) _ row_v (by omega) (isP_norm (isP_mulL _ hp))).mono ?_
  rintro e wN ⟨b_d, cp_d, rfl, row_d, q2⟩
  replace row_p := row_p.below q2 (Nat.le_refl _)
  replace row_q := row_q.below q2 (Nat.le_refl _)
  replace row_a := row_a.below q2 (Nat.le_refl _)
  replace row_b := row_b.below q2 (Nat.le_refl _)
  replace row_u := row_u.below q2 (Nat.le_refl _)
  replace row_c := row_c.below q2 (Nat.le_refl _)
  replace row_v := row_v.below q2 (Nat.le_refl _)
  replace q := btrans q q2
  clear q2
  have len_x := len_add p p
  go_wp2_with fail
  refine (addp_any hA _ _ _ _ _ _ p p _ row_p row_p (by omega) (by omega) hp hp).mono ?_
  rintro e wN ⟨b_x, cp_x, rfl, row_x, q2⟩
  replace row_p := row_p.below q2 (Nat.le_refl _)
  replace row_q := row_q.below q2 (Nat.le_refl _)
  replace row_a := row_a.below q2 (Nat.le_refl _)
  replace row_b := row_b.below q2 (Nat.le_refl _)
  replace row_u := row_u.below q2 (Nat.le_refl _)
  replace row_c := row_c.below q2 (Nat.le_refl _)
  replace row_v := row_v.below q2 (Nat.le_refl _)
  replace row_d := row_d.below q2 (Nat.le_refl _)
  replace q := btrans q q2
  clear q2
  rw [H1.out, H2.out]
  have len_y := len_add (norm (derL p)) (norm (derL q'))
  go_wp2_with fail
  refine (addp_any hA _ _ _ _ _ _ (norm (derL p)) (norm (derL q')) _ row_a row_b (by omega) (by omega) (isP_norm (isP_derL hp)) (isP_norm (isP_derL hq))).mono ?_
  rintro e wN ⟨b_y, cp_y, rfl, row_y, q2⟩
  replace row_p := row_p.below q2 (Nat.le_refl _)
  replace row_q := row_q.below q2 (Nat.le_refl _)
  replace row_a := row_a.below q2 (Nat.le_refl _)
  replace row_b := row_b.below q2 (Nat.le_refl _)
  replace row_u := row_u.below q2 (Nat.le_refl _)
  replace row_c := row_c.below q2 (Nat.le_refl _)
  replace row_v := row_v.below q2 (Nat.le_refl _)
  replace row_d := row_d.below q2 (Nat.le_refl _)
  replace row_x := row_x.below q2 (Nat.le_refl _)
  replace q := btrans q q2
  clear q2
  have len_z := len_add (norm (derL (norm (addL p q')))) (norm (addL (norm (derL p)) (norm (derL q'))))
  go_wp2_with fail
  refine (addp_any hA _ _ _ _ _ _ (norm (derL (norm (addL p q')))) (norm (addL (norm (derL p)) (norm (derL q')))) _ row_c row_y (by omega) (by omega) (isP_norm (isP_derL (isP_norm (isP_addL hp hq)))) (isP_norm (isP_addL (isP_norm (isP_derL hp)) (isP_norm (isP_derL hq))))).mono ?_
  rintro e wN ⟨b_z, cp_z, rfl, row_z, q2⟩
  replace row_p := row_p.below q2 (Nat.le_refl _)
  replace row_q := row_q.below q2 (Nat.le_refl _)
  replace row_a := row_a.below q2 (Nat.le_refl _)
  replace row_b := row_b.below q2 (Nat.le_refl _)
  replace row_u := row_u.below q2 (Nat.le_refl _)
  replace row_c := row_c.below q2 (Nat.le_refl _)
  replace row_v := row_v.below q2 (Nat.le_refl _)
  replace row_d := row_d.below q2 (Nat.le_refl _)
  replace row_x := row_x.below q2 (Nat.le_refl _)
  replace row_y := row_y.below q2 (Nat.le_refl _)
  replace q := btrans q q2
  clear q2
  rw [H3.out]
  clear row_a row_b row_u row_c row_v row_d row_x row_y row_z
  go_wp2_with fail
  refine (hD.yes _ _ _ _ _ _ p q' _ row_p row_q Lp Lq hp hq h0).mono ?_
  rintro e wN ⟨r, s, hdiv, a_d, cp_d, c_d, cq_d, rfl, row_a, row_s, q2⟩
  have hls := hdiv.short
  have hln := norm_length_le q'
  have his := hdiv.hs
  have HU : Hid (∀ z t, IsDiv s q' z t → z = [] ∧ t = s) := fun z t h => div_rest (r := []) hq (by rw [hdiv.ns]; exact hdiv.short) hdiv.ns h
  clear hdiv row_a
  replace row_p := row_p.below q2 (Nat.le_refl _)
  replace row_q := row_q.below q2 (Nat.le_refl _)
  replace q := btrans q q2
  clear q2
  go_wp2_with fail
  refine (hD.yes _ _ _ _ _ _ s q' _ row_s row_q (by omega) Lq his hq h0).mono ?_
  rintro e wN ⟨r2, s2, hdiv, a_e, cp_e, c_e, cq_e, rfl, row_e, row_t, q2⟩
  obtain ⟨rfl, rfl⟩ := HU.out r2 s2 hdiv
  clear hdiv h0 row_e
  replace row_p := row_p.below q2 (Nat.le_refl _)
  replace row_q := row_q.below q2 (Nat.le_refl _)
  replace row_s := row_s.below q2 (Nat.le_refl _)
  replace q := btrans q q2
  clear q2
  go_wp2_with fail
  refine (awake_any hM hD hE _).mono ?_
  rintro e wN ⟨rfl, q2⟩
  replace row_p := row_p.below q2 (Nat.le_refl _)
  replace row_q := row_q.below q2 (Nat.le_refl _)
  replace row_s := row_s.below q2 (Nat.le_refl _)
  replace row_t := row_t.below q2 (Nat.le_refl _)
  replace q := btrans q q2
  clear q2
  have len_zz := len_add s2 s2
  go_wp2_with fail
  refine (addp_any hA _ _ _ _ _ _ s2 s2 _ row_t row_s (by omega) (by omega) his his).mono ?_
  rintro e wN ⟨b_zz, cp_zz, rfl, row_zz, q2⟩
  replace row_p := row_p.below q2 (Nat.le_refl _)
  replace row_q := row_q.below q2 (Nat.le_refl _)
  replace row_s := row_s.below q2 (Nat.le_refl _)
  replace row_t := row_t.below q2 (Nat.le_refl _)
  replace q := btrans q q2
  clear q2
  rw [add_self_nil s2]
  go_wp2_with fail
  go_ret
  exact ⟨rfl, q⟩

end Go.Proofs.Ytmkjgacimbfblab
