/-
  The walks of layer 2's laws, out of the face of gf: each returns true; nothing old turns.
-/
import Derived.Test.YtaffkibccedgdaaGfFace
namespace Go.Proofs.Ytaffkibccedgdaa
open Go.RowKit
set_option linter.unusedVariables false


theorem gz_8191 (a : Nat) : gz a 8191 = 1 := rfl
theorem gz_8192 (a : Nat) (ha : a < 8192) : gz a 8192 = a := gpow_one a ha
theorem tmod_zero_iff (n : Int) : (n.tmod 8191 == 0) = decide (n % 8191 = 0) := by
  rw [Bool.eq_iff_iff, beq_iff_eq, decide_eq_true_iff]
  by_cases h : 0 ≤ n
  · rw [Int.tmod_eq_emod_of_nonneg h]
  · rw [tmod_neg n (by omega)]; omega
theorem gz_one_dec (n : Int) : (((gz 2 n : Nat) : Int) == 1) = decide (n % 8191 = 0) := by
  rw [Bool.eq_iff_iff, beq_iff_eq, decide_eq_true_iff, ← gz_one_iff]
  omega
set_option maxHeartbeats 1600000 in
set_option maxRecDepth 100000 in
theorem walk_orders (hM : MulC) (hI : InvC) (hL : LogC) (hE : ExpC) (hP : PowC) (a n : Int) (w : World) (h1 : -9223372036854775808 ≤ n) (h2 : n ≤ 9223372036854775807) :
    Calls Try.prog 8 #[.int .i64 a, .int .i64 n] w fun e w' => e = .returned (.bool true) ∧ Below w.heap.size w w' := by
  cases ha : isE a
  · go_enter Try.func8, Try.ntmps8
    go_wp2_with fail
    refine (is_any a _).mono ?_
    rintro e w' ⟨rfl, rfl⟩
    rw [ha]
    go_wp2_with fail
    go_ret
    exact ⟨rfl, Below.refl _ _⟩
  obtain ⟨x, rfl, hx⟩ := isE_true ha
  by_cases hx0 : x = 0
  · subst hx0
    go_enter Try.func8, Try.ntmps8
    go_wp2_with fail
    refine (is_any 0 _).mono ?_
    rintro e w' ⟨rfl, rfl⟩
    rw [show isE 0 = true from by decide]
    go_wp2_with fail
    go_ret
    exact ⟨rfl, Below.refl _ _⟩
  have hx1 : ((x : Int) == 0) = false := by simp; omega
  have H13 : Hid (sqN x 13 = x) := sq13 x hx
  have H1 : Hid (gz x 8191 = 1) := gz_8191 x
  have H2 : Hid (gz x 8192 = x) := gz_8192 x hx
  have hz1 := gz_one_dec n
  have hz2 := tmod_zero_iff n
  have HZ1 : Hid ((((gz 2 n : Nat) : Int) == 1) = decide (n % 8191 = 0)) := hz1
  have HZ2 : Hid ((n.tmod 8191 == 0) = decide (n % 8191 = 0)) := hz2
  clear hz1 hz2
  go_enter Try.func8, Try.ntmps8
  go_wp2_with fail
  refine (is_any x _).mono ?_
  rintro e w' ⟨rfl, rfl⟩
  rw [ha]
  clear ha
  go_wp2_with fail
  refine (hP.yes x 8191 _ hx hx0 (by omega) (by omega)).mono ?_
  rintro e wN ⟨rfl, q2⟩
  have q := q2
  clear q2
  rw [H1.out]
  go_wp2_with fail
  refine (hP.yes x 8192 _ hx hx0 (by omega) (by omega)).mono ?_
  rintro e wN ⟨rfl, q2⟩
  replace q := btrans q q2
  clear q2
  rw [H2.out]
  go_wp2_with fail
  go_loopw [9, 10] (fun s i wr => ∃ k : Nat, k ≤ 13 ∧ i = .int .i64 k ∧ s = .int .i64 (sqN x k : Nat) ∧ Below w.heap.size w wr) (fun _ i _ => 13 - (intOf i).toNat)
  case atStart => exact ⟨0, by omega, rfl, rfl, q⟩
  case round =>
    clear q
    obtain ⟨k, hk, rfl, rfl, q⟩ := hrel
    have hs := sqN_lt x k hx
    by_cases hlt : k < 13
    · have HS : Hid (sqN x (k + 1) = gmul (sqN x k) (sqN x k)) := rfl
      generalize sqN x k = s at *
      go_wp2_with fail
      refine (mul_from hM w _ q _ _ (by omega) (by omega) (by omega) (by omega)).mono ?_
      rintro e wN ⟨rfl, q⟩
      rw [show gmul (s : Int).toNat (s : Int).toNat = gmul s s from rfl]
      go_wp2_with fail
      go_roundw
      case rel => exact ⟨k + 1, by omega, by go_num, by rw [HS.out], q⟩
      case measure => simp [intOf]; omega
    · have e : k = 13 := by omega
      subst e
      rw [H13.out]
      clear hs
      go_wp2_with fail
      refine (awake_any hM hI hL hE _).mono ?_
      rintro e wN ⟨rfl, q2⟩
      replace q := btrans q q2
      clear q2
      go_wp2_with fail
      refine (hE n _ h1 h2).mono ?_
      rintro e wN ⟨rfl, q2⟩
      replace q := btrans q q2
      clear q2
      cases hd : decide (n % 8191 = 0)
      all_goals
        rw [hd] at HZ1 HZ2
        have hz1 := HZ1.out
        have hz2 := HZ2.out
        have hz3 : (n % 8191 == 0) = decide (n % 8191 = 0) := rfl
        rw [hd] at hz3
        clear hd
        by_cases hn : 0 ≤ n
        all_goals
          go_wp2_with fail
          go_ret
          exact ⟨rfl, q⟩

theorem mul_bd (l r : Int) (h0 : 0 ≤ l) (h1 : l ≤ 8190) (h2 : -8190 ≤ r) (h3 : r ≤ 8190) : -67076100 ≤ l * r ∧ l * r ≤ 67076100 := by
  constructor
  · have h4 : l * (-r) ≤ l * 8190 := Int.mul_le_mul_of_nonneg_left (by omega) h0
    have h5 : l * 8190 ≤ 8190 * 8190 := Int.mul_le_mul_of_nonneg_right h1 (by omega)
    rw [Int.mul_neg] at h4
    omega
  · have h4 : l * r ≤ l * 8190 := Int.mul_le_mul_of_nonneg_left h3 h0
    have h5 : l * 8190 ≤ 8190 * 8190 := Int.mul_le_mul_of_nonneg_right h1 (by omega)
    omega
theorem gz_log (a l : Nat) (m r : Int) (hl : gpow 2 l = a) (h : r % 8191 = m % 8191) : gz 2 ((l : Int) * r) = gz a m := by
  rw [gz_mul 2 l r (by decide) (by decide), hl]
  exact gz_congr a r m h
theorem tmod_mod (m : Int) : m.tmod 8191 % 8191 = m % 8191 ∧ -8190 ≤ m.tmod 8191 ∧ m.tmod 8191 ≤ 8190 := by
  by_cases h : 0 ≤ m
  · rw [Int.tmod_eq_emod_of_nonneg h]; omega
  · rw [tmod_neg m (by omega)]; omega
set_option maxHeartbeats 3200000 in
set_option maxRecDepth 100000 in
theorem walk_powers (hM : MulC) (hI : InvC) (hL : LogC) (hE : ExpC) (hP : PowC) (a m n : Int) (w : World) :
    Calls Try.prog 7 #[.int .i64 a, .int .i64 m, .int .i64 n] w fun e w' => e = .returned (.bool true) ∧ Below w.heap.size w w' := by
  cases ha : isE a
  · go_enter Try.func7, Try.ntmps7
    go_wp2_with fail
    refine (is_any a _).mono ?_
    rintro e w' ⟨rfl, rfl⟩
    rw [ha]
    go_wp2_with fail
    go_ret
    exact ⟨rfl, Below.refl _ _⟩
  obtain ⟨x, rfl, hx⟩ := isE_true ha
  by_cases hx0 : x = 0
  · subst hx0
    go_enter Try.func7, Try.ntmps7
    go_wp2_with fail
    refine (is_any 0 _).mono ?_
    rintro e w' ⟨rfl, rfl⟩
    rw [show isE 0 = true from by decide]
    go_wp2_with fail
    go_ret
    exact ⟨rfl, Below.refl _ _⟩
  have hx1 : ((x : Int) == 0) = false := by simp; omega
  by_cases hm1 : m < -100000
  · go_enter Try.func7, Try.ntmps7
    go_wp2_with fail
    refine (is_any x _).mono ?_
    rintro e w' ⟨rfl, rfl⟩
    rw [ha]
    go_wp2_with fail
    go_ret
    exact ⟨rfl, Below.refl _ _⟩
  by_cases hm2 : 100000 < m
  · go_enter Try.func7, Try.ntmps7
    go_wp2_with fail
    refine (is_any x _).mono ?_
    rintro e w' ⟨rfl, rfl⟩
    rw [ha]
    go_wp2_with fail
    go_ret
    exact ⟨rfl, Below.refl _ _⟩
  by_cases hn1 : n < -100000
  · go_enter Try.func7, Try.ntmps7
    go_wp2_with fail
    refine (is_any x _).mono ?_
    rintro e w' ⟨rfl, rfl⟩
    rw [ha]
    go_wp2_with fail
    go_ret
    exact ⟨rfl, Below.refl _ _⟩
  by_cases hn2 : 100000 < n
  · go_enter Try.func7, Try.ntmps7
    go_wp2_with fail
    refine (is_any x _).mono ?_
    rintro e w' ⟨rfl, rfl⟩
    rw [ha]
    go_wp2_with fail
    go_ret
    exact ⟨rfl, Below.refl _ _⟩
  have b1 := gz_lt x m hx
  have b2 := gz_lt x n hx
  have b3 := gz_lt 2 m (by decide)
  have b4 := gz_lt 2 n (by decide)
  have H1 : Hid (gmul (gz x m) (gz x n) = gz x (m + n)) := (gz_add x m n hx hx0).symm
  have H2 : Hid (gmul (gz 2 m) (gz 2 n) = gz 2 (m + n)) := (gz_add 2 m n (by decide) (by decide)).symm
  have ht := tmod_mod m
  have HT : Hid (m.tmod 8191 % 8191 = m % 8191) := ht.1
  have ht2 := ht.2.1
  have ht3 := ht.2.2
  clear ht
  go_enter Try.func7, Try.ntmps7
  go_wp2_with fail
  refine (is_any x _).mono ?_
  rintro e w' ⟨rfl, rfl⟩
  rw [ha]
  clear ha
  go_wp2_with fail
  refine (hP.yes x m _ hx hx0 (by omega) (by omega)).mono ?_
  rintro e wN ⟨rfl, q2⟩
  have q := q2
  clear q2
  go_wp2_with fail
  refine (hP.yes x n _ hx hx0 (by omega) (by omega)).mono ?_
  rintro e wN ⟨rfl, q2⟩
  replace q := btrans q q2
  clear q2
  go_wp2_with fail
  refine (hP.yes x (m + n) _ hx hx0 (by omega) (by omega)).mono ?_
  rintro e wN ⟨rfl, q2⟩
  replace q := btrans q q2
  clear q2
  go_wp2_with fail
  refine (hL.yes x _ hx hx0).mono ?_
  rintro e wN ⟨⟨l, hl, hp, rfl⟩, q2⟩
  replace q := btrans q q2
  clear q2
  have HL : Hid (∀ r : Int, r % 8191 = m % 8191 → gz 2 ((l : Int) * r) = gz x m) := fun r hr => gz_log x l m r hp hr
  clear hp
  have hbd := mul_bd l (m.tmod 8191) (by omega) (by omega) ht2 ht3
  have hbe := mul_bd l (m % 8191) (by omega) (by omega) (by omega) (by omega)
  go_wp2_with fail
  refine (awake_any hM hI hL hE _).mono ?_
  rintro e wN ⟨rfl, q2⟩
  replace q := btrans q q2
  clear q2
  go_wp2_with fail
  refine (mul_from hM w _ q _ _ (by omega) (by omega) (by omega) (by omega)).mono ?_
  rintro e wN ⟨rfl, q⟩
  rw [show gmul ((gz x m : Nat) : Int).toNat ((gz x n : Nat) : Int).toNat = gz x (m + n) from H1.out]
  by_cases hm0 : 0 ≤ m
  · go_wp2_with fail
    refine (hE ((l : Int) * (m % 8191)) _ (by omega) (by omega)).mono ?_
    rintro e wN ⟨rfl, q2⟩
    replace q := btrans q q2
    clear q2
    rw [HL.out (m % 8191) (by omega)]
    go_wp2_with fail
    refine (hE m _ (by omega) (by omega)).mono ?_
    rintro e wN ⟨rfl, q2⟩
    replace q := btrans q q2
    clear q2
    go_wp2_with fail
    refine (hE n _ (by omega) (by omega)).mono ?_
    rintro e wN ⟨rfl, q2⟩
    replace q := btrans q q2
    clear q2
    go_wp2_with fail
    refine (mul_from hM w _ q _ _ (by omega) (by omega) (by omega) (by omega)).mono ?_
    rintro e wN ⟨rfl, q⟩
    rw [show gmul ((gz 2 m : Nat) : Int).toNat ((gz 2 n : Nat) : Int).toNat = gz 2 (m + n) from H2.out]
    go_wp2_with fail
    refine (hE (m + n) _ (by omega) (by omega)).mono ?_
    rintro e wN ⟨rfl, q2⟩
    replace q := btrans q q2
    clear q2
    go_wp2_with fail
    go_ret
    exact ⟨rfl, q⟩
  · go_wp2_with fail
    refine (hE ((l : Int) * (m.tmod 8191)) _ (by omega) (by omega)).mono ?_
    rintro e wN ⟨rfl, q2⟩
    replace q := btrans q q2
    clear q2
    rw [HL.out (m.tmod 8191) HT.out]
    go_wp2_with fail
    refine (hE m _ (by omega) (by omega)).mono ?_
    rintro e wN ⟨rfl, q2⟩
    replace q := btrans q q2
    clear q2
    go_wp2_with fail
    refine (hE n _ (by omega) (by omega)).mono ?_
    rintro e wN ⟨rfl, q2⟩
    replace q := btrans q q2
    clear q2
    go_wp2_with fail
    refine (mul_from hM w _ q _ _ (by omega) (by omega) (by omega) (by omega)).mono ?_
    rintro e wN ⟨rfl, q⟩
    rw [show gmul ((gz 2 m : Nat) : Int).toNat ((gz 2 n : Nat) : Int).toNat = gz 2 (m + n) from H2.out]
    go_wp2_with fail
    refine (hE (m + n) _ (by omega) (by omega)).mono ?_
    rintro e wN ⟨rfl, q2⟩
    replace q := btrans q q2
    clear q2
    go_wp2_with fail
    go_ret
    exact ⟨rfl, q⟩

end Go.Proofs.Ytaffkibccedgdaa
