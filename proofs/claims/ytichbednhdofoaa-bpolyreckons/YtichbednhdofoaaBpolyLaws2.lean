/-
  The walk of layer 4's law BpolySums, out of the face of bpoly: it returns true; nothing old turns.
-/
import Derived.Test.YtichbednhdofoaaBpolyFace
namespace Go.Proofs.Ytichbednhdofoaa
open Go.RowKit
set_option linter.unusedVariables false

theorem deg_mul (p q : List Nat) (hp : Is01 p) (hq : Is01 q) : ((norm p).length = 0 ∨ (norm q).length = 0 → (norm (mulL p q)).length = 0) ∧ (0 < (norm p).length → 0 < (norm q).length → (norm (mulL p q)).length + 1 = (norm p).length + (norm q).length) := by
  constructor
  · intro h
    have : norm (mulL p q) = [] := by
      rcases h with h | h
      · have e : Eqv p [] := fun i => (norm_nil_iff _).1 (List.length_eq_zero_iff.1 h) i
        rw [norm_ext (mulL_left q hp.isP (fun x hx => absurd hx (by simp)) hq.isP e)]
        rfl
      · have e : Eqv q [] := fun i => (norm_nil_iff _).1 (List.length_eq_zero_iff.1 h) i
        rw [norm_ext ((mulL_right p e).trans (mulL_nil p))]
        rfl
    rw [this]; rfl
  · intro h1 h2
    have := mulL_length p q hp.isP hq.isP (List.length_pos_iff.1 h1) (List.length_pos_iff.1 h2)
    omega
theorem nb_len_le {l : List Nat} {n : Nat} (h : l.length ≤ 8 * n) : (nb l).length ≤ n := by
  rw [length_nb]
  have := norm_length_le l
  omega
theorem length_mulL (p q : List Nat) : (norm (mulL p q)).length ≤ p.length + q.length := norm_len_le _ _ fun i hi => mulL_high p q i hi
theorem nb_mul_len (x y : List Int) : (nb (mulL (bts x) (bts y))).length ≤ x.length + y.length := by
  rw [length_nb]
  have := length_mulL (bts x) (bts y)
  rw [length_bts, length_bts] at this
  omega
theorem nb_add_len (x y : List Int) : (nb (addL (bts x) (bts y))).length ≤ max x.length y.length := by
  apply nb_len_le
  rw [length_addL, length_bts, length_bts]
  omega
theorem is01_padd (x y : List Int) : Is01 (addL (bts x) (bts y)) := is01_addL (is01_bts x) (is01_bts y)
theorem is01_pmul (x y : List Int) : Is01 (mulL (bts x) (bts y)) := is01_mulL (is01_bts x) (is01_bts y)
theorem nb_self (x : List Int) : nb (addL (bts x) (bts x)) = [] := (nb_nil_iff _).2 (by rw [norm_ext (addL_self _)]; rfl)

set_option maxHeartbeats 3200000 in
set_option maxRecDepth 100000 in
theorem walk_bpolySums (hD : BDegC) (hA : BAddC) (hM : BMulC) (hO : BModC) (hN : BMinC) (hG : BGenC) (hV : BValC) (a c : Option Addr) (len cap len' cap' : Nat) (p q : List Int) (x : Int) (w : World)
    (rp : Row .u8 w a len cap p) (bp : IsB p) (rq : Row .u8 w c len' cap' q) (bq : IsB q) :
    Calls Try.prog 8 #[.slice a len cap, .slice c len' cap', .int .i64 x] w fun e w' => e = .returned (.bool true) ∧ Below w.heap.size w w' := by
  have hmax : len ≤ maxLen := Nat.le_trans rp.hcap rp.hmax
  have hmax' : len' ≤ maxLen := Nat.le_trans rq.hcap rq.hmax
  by_cases hs : len ≤ 60 ∧ len' ≤ 60
  case neg =>
    have hsm := small4_no hs
    go_enter Try.func8, Try.ntmps8
    go_wp2_with fail
    refine (small4_any _ _ _ _ _ _ _ hmax hmax').mono ?_
    rintro e w' ⟨rfl, rfl⟩
    rw [hsm]
    go_wp2_with fail
    go_ret
    exact ⟨rfl, Below.refl _ _⟩
  have hsm := small4_yes hs.1 hs.2
  obtain ⟨hs1, hs2⟩ := hs
  cases hx : isE x
  case false =>
    go_enter Try.func8, Try.ntmps8
    go_wp2_with fail
    refine (small4_any _ _ _ _ _ _ _ hmax hmax').mono ?_
    rintro e w' ⟨rfl, rfl⟩
    rw [hsm]
    go_wp2_with fail
    refine (is_any x _).mono ?_
    rintro e w' ⟨rfl, rfl⟩
    rw [hx]
    go_wp2_with fail
    go_ret
    exact ⟨rfl, Below.refl _ _⟩
  obtain ⟨y, rfl, hy⟩ := isE_true hx
  have HLp : Hid (p.length = len) := rp.hlen
  have HLq : Hid (q.length = len') := rq.hlen
  have hAl : (nb (addL (bts p) (bts q))).length ≤ 60 := by have := nb_add_len p q; have := HLp.out; have := HLq.out; omega
  have hMl : (nb (mulL (bts p) (bts q))).length ≤ 120 := by have := nb_mul_len p q; have := HLp.out; have := HLq.out; omega
  have hAb := isB_nb (is01_padd p q)
  have hMb := isB_nb (is01_pmul p q)
  have HVS : Hid (evl (bts (nb (addL (bts p) (bts q)))) y = evl (bts p) y ^^^ evl (bts q) y) := by
    show _ = _
    rw [evl_eqv y (bts_nb (is01_padd p q)), evl_add]
  have HDM := deg_mul (bts p) (bts q) (is01_bts p) (is01_bts q)
  rw [← norm_bts_nb (is01_pmul p q)] at HDM
  have cA := hA a c len cap len' cap' p q
  have cM := hM a c len cap len' cap' p q
  have cS := hA a a len cap len cap p p
  rw [nb_self] at cS
  have h1 := evl_lt (is01_bts p).isP y hy
  have h2 := evl_lt (is01_bts q).isP y hy
  have cD := hD a len cap p
  have cD' := hD c len' cap' q
  have cV := hV.yes a len cap p y
  have cV' := hV.yes c len' cap' q y
  generalize nb (addL (bts p) (bts q)) = zs at *
  generalize nb (mulL (bts p) (bts q)) = zm at *
  have cDm : ∀ b cp, _ := fun b cp => hD b zm.length cp zm
  have cVs : ∀ b cp, _ := fun b cp => hV.yes b zs.length cp zs y
  have hdpl : (norm (bts p)).length ≤ 1000 := by have := norm_length_le (bts p); rw [length_bts] at this; have := HLp.out; omega
  have hdql : (norm (bts q)).length ≤ 1000 := by have := norm_length_le (bts q); rw [length_bts] at this; have := HLq.out; omega
  generalize (norm (bts p)).length = dp at *
  generalize (norm (bts q)).length = dq at *
  generalize (norm (bts zm)).length = dm at *
  have HDM1 : Hid (dp = 0 ∨ dq = 0 → dm = 0) := HDM.1
  have HDM2 : Hid (0 < dp → 0 < dq → dm + 1 = dp + dq) := HDM.2
  clear HDM
  generalize evl (bts p) y = vp at *
  generalize evl (bts q) y = vq at *
  go_enter Try.func8, Try.ntmps8
  go_wp2_with fail
  refine (small4_any _ _ _ _ _ _ _ hmax hmax').mono ?_
  rintro e w' ⟨rfl, rfl⟩
  rw [hsm]
  go_wp2_with fail
  refine (is_any _ _).mono ?_
  rintro e w' ⟨rfl, rfl⟩
  rw [hx]
  go_wp2_with fail
  refine (cV _ rp bp (by omega) hy).mono ?_
  rintro e w1 ⟨rfl, q1⟩
  replace rp := rp.below q1 (Nat.le_refl _)
  replace rq := rq.below q1 (Nat.le_refl _)
  go_wp2_with fail
  refine (cV' _ rq bq (by omega) hy).mono ?_
  rintro e w2 ⟨rfl, q2⟩
  replace rp := rp.below q2 (Nat.le_refl _)
  replace rq := rq.below q2 (Nat.le_refl _)
  replace q1 := btrans q1 q2
  clear q2
  go_wp2_with fail
  refine (cA _ rp rq bp bq (by omega) (by omega)).mono ?_
  rintro e w3 ⟨a3, cp3, rfl, hrow3, q2⟩
  replace rp := rp.below q2 (Nat.le_refl _)
  replace rq := rq.below q2 (Nat.le_refl _)
  replace q1 := btrans q1 q2
  clear q2
  go_wp2_with fail
  refine (cVs _ _ _ hrow3 hAb (by omega) hy).mono ?_
  rintro e w4 ⟨rfl, q2⟩
  rw [HVS.out]
  replace rp := rp.below q2 (Nat.le_refl _)
  replace rq := rq.below q2 (Nat.le_refl _)
  replace q1 := btrans q1 q2
  clear q2 hrow3
  go_wp2_with fail
  refine (cD _ rp bp (by omega)).mono ?_
  rintro e w5 ⟨rfl, q2⟩
  replace rp := rp.below q2 (Nat.le_refl _)
  replace rq := rq.below q2 (Nat.le_refl _)
  replace q1 := btrans q1 q2
  clear q2
  go_wp2_with fail
  refine (cD' _ rq bq (by omega)).mono ?_
  rintro e w6 ⟨rfl, q2⟩
  replace rp := rp.below q2 (Nat.le_refl _)
  replace rq := rq.below q2 (Nat.le_refl _)
  replace q1 := btrans q1 q2
  clear q2
  go_wp2_with fail
  refine (cM _ rp rq bp bq (by omega) (by omega)).mono ?_
  rintro e w7 ⟨a7, cp7, rfl, hrow7, q2⟩
  replace rp := rp.below q2 (Nat.le_refl _)
  replace q1 := btrans q1 q2
  clear q2
  go_wp2_with fail
  refine (cDm _ _ _ hrow7 hMb (by omega)).mono ?_
  rintro e w8 ⟨rfl, q2⟩
  replace rp := rp.below q2 (Nat.le_refl _)
  replace q1 := btrans q1 q2
  clear q2 hrow7
  by_cases hdp : dp = 0
  · have hdm := HDM1.out (.inl hdp)
    subst hdp hdm
    clear HDM1 HDM2
    go_wp2_with fail
    refine (awake4_any hD hM hO hN hG _).mono ?_
    rintro e w9 ⟨rfl, q2⟩
    replace rp := rp.below q2 (Nat.le_refl _)
    replace q1 := btrans q1 q2
    clear q2
    go_wp2_with fail
    refine (cS _ rp rp bp bp (by omega) (by omega)).mono ?_
    rintro e w10 ⟨a10, cp10, rfl, hrow10, q2⟩
    replace q1 := btrans q1 q2
    clear q2 hrow10
    go_wp2_with fail
    refine (sum_any vp vq _ (by omega) (by omega)).mono ?_
    rintro e w' ⟨rfl, rfl⟩
    go_wp2_with fail
    go_ret
    exact ⟨rfl, q1⟩
  · by_cases hdq : dq = 0
    · have hdm := HDM1.out (.inr hdq)
      subst hdq hdm
      clear HDM1 HDM2
      have hdp' : 0 < dp := by omega
      have hdp2 : ¬ ((dp : Int) - 1 < 0) := by omega
      go_wp2_with fail
      refine (awake4_any hD hM hO hN hG _).mono ?_
      rintro e w9 ⟨rfl, q2⟩
      replace rp := rp.below q2 (Nat.le_refl _)
      replace q1 := btrans q1 q2
      clear q2
      go_wp2_with fail
      refine (cS _ rp rp bp bp (by omega) (by omega)).mono ?_
      rintro e w10 ⟨a10, cp10, rfl, hrow10, q2⟩
      replace q1 := btrans q1 q2
      clear q2 hrow10
      go_wp2_with fail
      refine (sum_any vp vq _ (by omega) (by omega)).mono ?_
      rintro e w' ⟨rfl, rfl⟩
      go_wp2_with fail
      go_ret
      exact ⟨rfl, q1⟩
    · have hdm := HDM2.out (by omega) (by omega)
      have hdp' : 0 < dp := by omega
      have hdq' : 0 < dq := by omega
      have hdp2 : ¬ ((dp : Int) - 1 < 0) := by omega
      have hdq2 : ¬ ((dq : Int) - 1 < 0) := by omega
      have hdd : (((dm : Int) - 1) != ((dp : Int) - 1 + ((dq : Int) - 1))) = false := by simp; omega
      clear HDM1 HDM2 hdm
      go_wp2_with fail
      refine (awake4_any hD hM hO hN hG _).mono ?_
      rintro e w9 ⟨rfl, q2⟩
      replace rp := rp.below q2 (Nat.le_refl _)
      replace q1 := btrans q1 q2
      clear q2
      go_wp2_with fail
      refine (cS _ rp rp bp bp (by omega) (by omega)).mono ?_
      rintro e w10 ⟨a10, cp10, rfl, hrow10, q2⟩
      replace q1 := btrans q1 q2
      clear q2 hrow10
      go_wp2_with fail
      refine (sum_any vp vq _ (by omega) (by omega)).mono ?_
      rintro e w' ⟨rfl, rfl⟩
      go_wp2_with fail
      go_ret
      exact ⟨rfl, q1⟩

end Go.Proofs.Ytichbednhdofoaa
