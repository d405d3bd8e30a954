/-
  Layer 13's reference (casemateref13): power, shr, rotr, xor, and, not, three, digits, Times, Greater, above, frac give what the plain functions give; nothing old turns.
-/
import Derived.Test.YtoijeefmddopbaaShaCode
import Derived.Test.YtoijeefmddopbaaShaBig
namespace Go.Proofs.Ytoijeefmddopbaa
open Go.RowKit
set_option linter.unusedVariables false
set_option maxRecDepth 8192

theorem quietW {P : Program} {f : FuncId} {args : Array Value} {w : World} {n : Nat} {v : Value}
    (h : Calls P f args (w.drewN n) fun e w' => e = .returned v ∧ w.drewN n = w') : Calls P f args (w.drewN n) fun e w'' => e = .returned v ∧ ∃ m, w'' = w.drewN m :=
  h.mono fun _ _ ⟨he, hm⟩ => ⟨he, n, hm.symm⟩

theorem power_any (n : Nat) (w : World) (hn : n ≤ 60) : Calls Try.prog 33 #[.int .i64 (n : Int)] w fun e w' => e = .returned (.int .i64 ((2 ^ n : Nat) : Int)) ∧ w = w' := by
  go_enter Try.func33, Try.ntmps33
  go_wp2
  go_loop [3, 4] (fun x y => ∃ k : Nat, k ≤ n ∧ y = .int .i64 (k : Int) ∧ x = .int .i64 ((2 ^ k : Nat) : Int)) (fun _ y => n - (intOf y).toNat)
  case atStart => exact ⟨0, Nat.zero_le _, rfl, rfl⟩
  case round =>
    obtain ⟨k, hk, rfl, rfl⟩ := hrel
    have HP : Hid (2 ^ (k + 1) = 2 * 2 ^ k) := by show _ = _; rw [Nat.pow_succ]; omega
    have hb : 2 ^ k ≤ 2 ^ 60 := Nat.pow_le_pow_right (by decide) (by omega)
    by_cases hlt : k < n
    · generalize 2 ^ k = p at *
      go_wp2
      go_round
      case rel => exact ⟨k + 1, by omega, by go_num, by rw [HP.out]; go_num⟩
      case measure => simp [intOf]; omega
    · obtain rfl : k = n := by omega
      generalize hpp : 2 ^ k = p at *
      have HQ : Hid (2 ^ k = p) := hpp
      clear hpp
      go_wp2
      go_ret
      exact ⟨ret_int (by rw [← HQ.out]; simp), rfl⟩
theorem refShr_any (x n : Nat) (w : World) (hn : n ≤ 60) (hx : x < 4294967296) : Calls Try.prog 52 #[.int .i64 (x : Int), .int .i64 (n : Int)] w fun e w' => e = .returned (.int .i64 ((x / 2 ^ n : Nat) : Int)) ∧ w = w' := by
  have hb : 2 ^ n ≤ 2 ^ 60 := Nat.pow_le_pow_right (by decide) (by omega)
  have hp : 0 < 2 ^ n := Nat.two_pow_pos n
  go_enter Try.func52, Try.ntmps52
  go_wp2_with fail
  refine (power_any n _ hn).mono ?_
  rintro e w' ⟨rfl, rfl⟩
  have HQ : Hid (x / 2 ^ n = x / 2 ^ n) := rfl
  generalize hpp : 2 ^ n = p at hb hp ⊢
  have hd : (x : Int).tdiv (p : Int) = ((x / p : Nat) : Int) := (Int.ofNat_tdiv x p).symm
  have HE : Hid (x / 2 ^ n = x / p) := by show _ = _; rw [hpp]
  clear hpp
  have hle : x / p ≤ x := Nat.div_le_self _ _
  generalize x / p = q at *
  go_wp2
  go_ret
  exact ⟨ret_int (by rw [HE.out]), rfl⟩
set_option maxHeartbeats 1600000 in
theorem refRotr_any (x n : Nat) (w : World) (hx : x < 4294967296) (h0 : 0 < n) (hn : n < 32) : Calls Try.prog 51 #[.int .i64 (x : Int), .int .i64 (n : Int)] w fun e w' => e = .returned (.int .i64 ((rr x n : Nat) : Int)) ∧ ∃ m, w' = w.drewN m := by
  have hb : 2 ^ n ≤ 2 ^ 31 := Nat.pow_le_pow_right (by decide) (by omega)
  have hp : 0 < 2 ^ n := Nat.two_pow_pos n
  have hb2 : 2 ^ (32 - n) ≤ 2 ^ 31 := Nat.pow_le_pow_right (by decide) (by omega)
  have hRl := rr_lt x n hx (by omega)
  have HR : Hid (rr x n = x / 2 ^ n + x % 2 ^ n * 2 ^ (32 - n)) := rfl
  have hRl' : x / 2 ^ n + x % 2 ^ n * 2 ^ (32 - n) < 4294967296 := hRl
  have c1 := fun w => power_any n w (by omega)
  have c2 := fun w => power_any (32 - n) w (by omega)
  have e32 : (32 : Int) - (n : Int) = ((32 - n : Nat) : Int) := by omega
  have e32w : IntKind.i64.wrap ((32 : Int) - (n : Int)) = ((32 - n : Nat) : Int) := by rw [IntKind.wrap_i64]; omega
  generalize 2 ^ n = p at *
  generalize 2 ^ (32 - n) = q at *
  have hd : (x : Int).tdiv (p : Int) = ((x / p : Nat) : Int) := (Int.ofNat_tdiv x p).symm
  have hm : (x : Int).tmod (p : Int) = ((x % p : Nat) : Int) := (Int.ofNat_tmod x p).symm
  have hle : x / p ≤ x := Nat.div_le_self _ _
  generalize x / p = d at *
  generalize x % p = m at *
  have hmq : (m : Int) * (q : Int) = ((m * q : Nat) : Int) := (Int.natCast_mul m q).symm
  generalize m * q = mq at *
  generalize 32 - n = n2 at *
  go_enter Try.func51, Try.ntmps51
  go_wp2_with fail
  go_quiet (first
    | (go_at_call 33; with_reducible exact quietW (c1 _))
    | (go_at_call 33; with_reducible exact quietW (c2 _)))
  go_wp2
  go_ret
  exact ⟨ret_int (by rw [HR.out]; go_num), _, rfl⟩
set_option maxHeartbeats 800000 in
theorem refXor_any (a b : Nat) (w : World) (ha : a < 4294967296) (hb : b < 4294967296) : Calls Try.prog 36 #[.int .i64 (a : Int), .int .i64 (b : Int)] w fun e w' => e = .returned (.int .i64 ((a ^^^ b : Nat) : Int)) ∧ w = w' := by
  have HX : Hid ((a ^^^ b) % 2 ^ 32 = a ^^^ b) := Nat.mod_eq_of_lt (xlt ha hb)
  go_enter Try.func36, Try.ntmps36
  go_wp2
  go_loop [0, 1, 5, 6, 7] (fun x y o p i => ∃ k : Nat, k ≤ 32 ∧ i = .int .i64 (k : Int) ∧ x = .int .i64 ((a / 2 ^ k : Nat) : Int) ∧ y = .int .i64 ((b / 2 ^ k : Nat) : Int) ∧ o = .int .i64 (((a ^^^ b) % 2 ^ k : Nat) : Int) ∧ p = .int .i64 ((2 ^ k : Nat) : Int)) (fun _ _ _ _ i => 32 - (intOf i).toNat)
  case atStart => exact ⟨0, by omega, rfl, by simp, by simp, by simp [Nat.mod_one], by simp⟩
  case round =>
    obtain ⟨k, hk, rfl, rfl, rfl, rfl, rfl⟩ := hrel
    by_cases hlt : k < 32
    · have HS : Hid ((a ^^^ b) % 2 ^ (k + 1) = (a ^^^ b) % 2 ^ k + (if a / 2 ^ k % 2 = b / 2 ^ k % 2 then 0 else 2 ^ k)) := xorW_step a b k
      have HA : Hid (a / 2 ^ (k + 1) = a / 2 ^ k / 2) := (div_step2 a k).symm
      have HB : Hid (b / 2 ^ (k + 1) = b / 2 ^ k / 2) := (div_step2 b k).symm
      have HP : Hid (2 ^ (k + 1) = 2 * 2 ^ k) := by show _ = _; rw [Nat.pow_succ]; omega
      have h1 : a / 2 ^ k ≤ a := Nat.div_le_self _ _
      have h2 : b / 2 ^ k ≤ b := Nat.div_le_self _ _
      have h3 : (a ^^^ b) % 2 ^ k < 2 ^ k := Nat.mod_lt _ (Nat.two_pow_pos k)
      have h4 : 2 ^ k ≤ 2 ^ 32 := Nat.pow_le_pow_right (by decide) (by omega)
      generalize a / 2 ^ k = n1 at *
      generalize b / 2 ^ k = n2 at *
      generalize (a ^^^ b) % 2 ^ k = o at *
      generalize 2 ^ k = p at *
      by_cases hd : n1 % 2 = n2 % 2
      · have hq : (((n1 : Int) % 2) != ((n2 : Int) % 2)) = false := by simp; omega
        go_wp2
        go_round
        case rel => exact ⟨k + 1, by omega, by go_num, by rw [HA.out]; go_num, by rw [HB.out]; go_num, by rw [HS.out, if_pos hd]; go_num, by rw [HP.out]; go_num⟩
        case measure => simp [intOf]; omega
      · have hq : (((n1 : Int) % 2) != ((n2 : Int) % 2)) = true := by simp; omega
        go_wp2
        go_round
        case rel => exact ⟨k + 1, by omega, by go_num, by rw [HA.out]; go_num, by rw [HB.out]; go_num, by rw [HS.out, if_neg hd]; go_num, by rw [HP.out]; go_num⟩
        case measure => simp [intOf]; omega
    · obtain rfl : k = 32 := by omega
      generalize a / 2 ^ 32 = n1 at *
      generalize b / 2 ^ 32 = n2 at *
      generalize (a ^^^ b) % 2 ^ 32 = o at *
      go_wp2
      go_ret
      exact ⟨ret_int (by rw [HX.out]), rfl⟩
theorem bit_prod (x y : Nat) : x % 2 * (y % 2) = if x % 2 = 1 ∧ y % 2 = 1 then 1 else 0 := by
  have h1 : x % 2 = 0 ∨ x % 2 = 1 := by omega
  have h2 : y % 2 = 0 ∨ y % 2 = 1 := by omega
  rcases h1 with h1 | h1 <;> rcases h2 with h2 | h2 <;> rw [h1, h2] <;> rfl
set_option maxHeartbeats 800000 in
theorem refAnd_any (a b : Nat) (w : World) (ha : a < 4294967296) (hb : b < 4294967296) : Calls Try.prog 37 #[.int .i64 (a : Int), .int .i64 (b : Int)] w fun e w' => e = .returned (.int .i64 ((a &&& b : Nat) : Int)) ∧ w = w' := by
  have HX : Hid ((a &&& b) % 2 ^ 32 = a &&& b) := Nat.mod_eq_of_lt (alt hb)
  go_enter Try.func37, Try.ntmps37
  go_wp2
  go_loop [0, 1, 5, 6, 7] (fun x y o p i => ∃ k : Nat, k ≤ 32 ∧ i = .int .i64 (k : Int) ∧ x = .int .i64 ((a / 2 ^ k : Nat) : Int) ∧ y = .int .i64 ((b / 2 ^ k : Nat) : Int) ∧ o = .int .i64 (((a &&& b) % 2 ^ k : Nat) : Int) ∧ p = .int .i64 ((2 ^ k : Nat) : Int)) (fun _ _ _ _ i => 32 - (intOf i).toNat)
  case atStart => exact ⟨0, by omega, rfl, by simp, by simp, by simp [Nat.mod_one], by simp⟩
  case round =>
    obtain ⟨k, hk, rfl, rfl, rfl, rfl, rfl⟩ := hrel
    by_cases hlt : k < 32
    · have HS : Hid ((a &&& b) % 2 ^ (k + 1) = (a &&& b) % 2 ^ k + a / 2 ^ k % 2 * (b / 2 ^ k % 2) * 2 ^ k) := andW_step a b k
      have HA : Hid (a / 2 ^ (k + 1) = a / 2 ^ k / 2) := (div_step2 a k).symm
      have HB : Hid (b / 2 ^ (k + 1) = b / 2 ^ k / 2) := (div_step2 b k).symm
      have HP : Hid (2 ^ (k + 1) = 2 * 2 ^ k) := by show _ = _; rw [Nat.pow_succ]; omega
      have h1 : a / 2 ^ k ≤ a := Nat.div_le_self _ _
      have h2 : b / 2 ^ k ≤ b := Nat.div_le_self _ _
      have h3 : (a &&& b) % 2 ^ k < 2 ^ k := Nat.mod_lt _ (Nat.two_pow_pos k)
      have h4 : 2 ^ k ≤ 2 ^ 32 := Nat.pow_le_pow_right (by decide) (by omega)
      generalize a / 2 ^ k = n1 at *
      generalize b / 2 ^ k = n2 at *
      generalize (a &&& b) % 2 ^ k = o at *
      generalize 2 ^ k = p at *
      have hm1 : (n1 : Int) % 2 * ((n2 : Int) % 2) = ((n1 % 2 * (n2 % 2) : Nat) : Int) := by simp
      have hle1 : n1 % 2 * (n2 % 2) ≤ 1 * 1 := Nat.mul_le_mul (by omega) (by omega)
      generalize n1 % 2 * (n2 % 2) = c at *
      have hm2 : (c : Int) * (p : Int) = ((c * p : Nat) : Int) := by simp
      have hle2 : c * p ≤ 1 * p := Nat.mul_le_mul_right _ hle1
      generalize c * p = cp at *
      go_wp2
      go_round
      case rel => exact ⟨k + 1, by omega, by go_num, by rw [HA.out]; go_num, by rw [HB.out]; go_num, by rw [HS.out]; go_num, by rw [HP.out]; go_num⟩
      case measure => simp [intOf]; omega
    · obtain rfl : k = 32 := by omega
      generalize a / 2 ^ 32 = n1 at *
      generalize b / 2 ^ 32 = n2 at *
      generalize (a &&& b) % 2 ^ 32 = o at *
      go_wp2
      go_ret
      exact ⟨ret_int (by rw [HX.out]), rfl⟩
theorem refNot_any (a : Nat) (w : World) (ha : a < 4294967296) : Calls Try.prog 38 #[.int .i64 (a : Int)] w fun e w' => e = .returned (.int .i64 ((4294967295 - a : Nat) : Int)) ∧ w = w' := by
  go_enter Try.func38, Try.ntmps38
  go_wp2
  go_ret
  exact ⟨ret_int (by go_num), rfl⟩
theorem refThree_any (x a b c : Nat) (w : World) (hx : x < 4294967296) (ha : 0 < a) (ha2 : a < 32) (hb : 0 < b) (hb2 : b < 32) (hc : 0 < c) (hc2 : c < 32) :
    Calls Try.prog 39 #[.int .i64 (x : Int), .int .i64 (a : Int), .int .i64 (b : Int), .int .i64 (c : Int)] w fun e w' => e = .returned (.int .i64 ((rr x a ^^^ rr x b ^^^ rr x c : Nat) : Int)) ∧ ∃ m, w' = w.drewN m := by
  have l1 := rr_lt x a hx (by omega)
  have l2 := rr_lt x b hx (by omega)
  have l3 := rr_lt x c hx (by omega)
  go_enter Try.func39, Try.ntmps39
  go_wp2_with fail
  refine (refRotr_any x a _ hx ha ha2).mono ?_
  rintro e w' ⟨rfl, m1, rfl⟩
  go_wp2_with fail
  refine (refRotr_any x b _ hx hb hb2).mono ?_
  rintro e w' ⟨rfl, m2, rfl⟩
  go_wp2_with fail
  refine (refXor_any _ _ _ l1 l2).mono ?_
  rintro e w' ⟨rfl, rfl⟩
  go_wp2_with fail
  refine (refRotr_any x c _ hx hc hc2).mono ?_
  rintro e w' ⟨rfl, m3, rfl⟩
  go_wp2_with fail
  refine (refXor_any _ _ _ (xlt l1 l2) l3).mono ?_
  rintro e w' ⟨rfl, rfl⟩
  go_wp2
  go_ret
  exact ⟨rfl, m1 + m2 + m3, by simp [Nat.add_assoc]⟩
end Go.Proofs.Ytoijeefmddopbaa
