/-
  Layer 2's reference (casemateref02): Is, Sum, Mul, Pow, Inv, Exp return what the plain functions of the field give; nothing turns.
-/
import Derived.Test.YtgamakejaknagaaGreatPackB
import Derived.Test.YtgamakejaknagaaGreatPackA
import Derived.Test.YtgamakejaknagaaGreatRows
import Derived.Laws.BitsAllLaws
import Derived.WalkMore
namespace Go.Proofs.YtgamakejaknagaaGreat
open Go.RowKit
set_option linter.unusedVariables false
set_option maxRecDepth 8192

/-- Is it an element? -/
def isE (a : Int) : Bool := decide (0 ≤ a ∧ a < 8192)
theorem isE_nat {n : Nat} (h : n < 8192) : isE n = true := by unfold isE; simp; omega
theorem div_step (a k : Nat) : a / 2 ^ (k + 1) = a / 2 ^ k / 2 := by rw [Nat.pow_succ, Nat.div_div_eq_div_mul]
theorem lt_of_div_zero (a k : Nat) (h : a / 2 ^ k = 0) : a < 2 ^ k := by
  rcases Nat.lt_or_ge a (2 ^ k) with h' | h'
  · exact h'
  · have := Nat.div_pos h' (Nat.two_pow_pos k); omega
theorem testBit_div (b k : Nat) : b.testBit k = decide (b / 2 ^ k % 2 = 1) := Nat.testBit_eq_decide_div_mod_eq
theorem gmulTo_stop (a b k j : Nat) (h : b < 2 ^ k) : gmulTo a b (k + j) = gmulTo a b k := by
  induction j with
  | zero => rfl
  | succ j ih =>
    rw [← Nat.add_assoc]
    simp only [gmulTo]
    rw [ih, Nat.testBit_lt_two_pow (Nat.lt_of_lt_of_le h (Nat.pow_le_pow_right (by decide) (by omega)))]
    simp
theorem gmul_stop (a b k : Nat) (h : b / 2 ^ k = 0) (hk : k ≤ 13) : gmulTo a b k = gmul a b := by
  unfold gmul
  rw [← gmulTo_stop a b k (13 - k) (lt_of_div_zero b k h), show k + (13 - k) = 13 from by omega]
theorem div_big13 (a k : Nat) (ha : a < 8192) (h : a / 2 ^ k ≠ 0) : k < 13 := by
  rcases Nat.lt_or_ge k 13 with h' | h'
  · exact h'
  · exfalso
    apply h
    have : 2 ^ 13 ≤ 2 ^ k := Nat.pow_le_pow_right (by decide) h'
    exact Nat.div_eq_of_lt (by omega)

theorem pow_half (a n : Nat) (ha : a < 8192) : gpow a n = if n % 2 = 1 then gmul a (gpow (gmul a a) (n / 2)) else gpow (gmul a a) (n / 2) := by
  have e : gpow (gmul a a) (n / 2) = gpow a (2 * (n / 2)) := by
    rw [gpow_mul a 2 _ ha]
    congr 1
    show gmul a a = gmul (gpow a 1) a
    rw [gpow_one a ha]
  rw [e]
  by_cases h : n % 2 = 1
  · rw [if_pos h, gmul_comm a _ ha (gpow_lt a _ ha)]
    show gpow a n = gpow a (2 * (n / 2) + 1)
    congr 1
    omega
  · rw [if_neg h]
    congr 1
    omega
theorem pow_rel_odd (a n a0 n0 o : Nat) (ha : a < 8192) (ho : o < 8192) (h : n % 2 = 1) (hr : gmul o (gpow a n) = gpow a0 n0) : gmul (gmul o a) (gpow (gmul a a) (n / 2)) = gpow a0 n0 := by
  rw [pow_half a n ha, if_pos h] at hr
  rw [gmul_assoc o a _ ho ha (gpow_lt _ _ (gmul_lt a a ha))]
  exact hr
theorem pow_rel_even (a n a0 n0 o : Nat) (ha : a < 8192) (h : ¬ n % 2 = 1) (hr : gmul o (gpow a n) = gpow a0 n0) : gmul o (gpow (gmul a a) (n / 2)) = gpow a0 n0 := by
  rw [pow_half a n ha, if_neg h] at hr
  exact hr

theorem tmod_neg (n : Int) (h : n < 0) : n.tmod 8191 = -((-n) % 8191) := by
  have := Int.neg_tmod (-n) 8191
  rw [Int.neg_neg] at this
  rw [this, Int.tmod_eq_emod_of_nonneg (by omega)]

end Go.Proofs.YtgamakejaknagaaGreat

/-
  What the code of layer 2 (gf) must return, function by function (the face that the laws' walks lean on), and awake and mul of the laws.
-/
namespace Go.Proofs.YtgamakejaknagaaGreat
open Go.RowKit
set_option linter.unusedVariables false
set_option maxRecDepth 8192

structure MulC : Prop where
  no : ∀ (a b : Int) (w : World), (isE a && isE b) = false → Calls Tryz.prog 199 #[.int .i64 a, .int .i64 b] w fun e w' => e = .returned (.tuple #[.int .i64 0, .int .i64 1]) ∧ Below w.heap.size w w'
  yes : ∀ (a b : Nat) (w : World), a < 8192 → b < 8192 → Calls Tryz.prog 199 #[.int .i64 a, .int .i64 b] w fun e w' => e = .returned (.tuple #[.int .i64 (gmul a b : Nat), .int .i64 0]) ∧ Below w.heap.size w w'
theorem MulC.int (h : MulC) (x y : Int) (w : World) (h0 : 0 ≤ x) (h1 : x < 8192) (h2 : 0 ≤ y) (h3 : y < 8192) :
    Calls Tryz.prog 199 #[.int .i64 x, .int .i64 y] w fun e w' => e = .returned (.tuple #[.int .i64 (gmul x.toNat y.toNat : Nat), .int .i64 0]) ∧ Below w.heap.size w w' := by
  obtain ⟨a, rfl⟩ := Int.eq_ofNat_of_zero_le h0
  obtain ⟨b, rfl⟩ := Int.eq_ofNat_of_zero_le h2
  exact h.yes a b w (by omega) (by omega)
structure InvC : Prop where
  no : ∀ (a : Int) (w : World), isE a = false → Calls Tryz.prog 174 #[.int .i64 a] w fun e w' => e = .returned (.tuple #[.int .i64 0, .int .i64 1]) ∧ Below w.heap.size w w'
  zero : ∀ (w : World), Calls Tryz.prog 174 #[.int .i64 0] w fun e w' => e = .returned (.tuple #[.int .i64 0, .int .i64 20]) ∧ Below w.heap.size w w'
  yes : ∀ (a : Nat) (w : World), a < 8192 → a ≠ 0 → Calls Tryz.prog 174 #[.int .i64 a] w fun e w' => e = .returned (.tuple #[.int .i64 (ginv a : Nat), .int .i64 0]) ∧ Below w.heap.size w w'
structure PowC : Prop where
  no : ∀ (a n : Int) (w : World), isE a = false → -9223372036854775808 ≤ n → n ≤ 9223372036854775807 → Calls Tryz.prog 197 #[.int .i64 a, .int .i64 n] w fun e w' => e = .returned (.tuple #[.int .i64 0, .int .i64 1]) ∧ Below w.heap.size w w'
  zneg : ∀ (n : Int) (w : World), n < 0 → -9223372036854775808 ≤ n → Calls Tryz.prog 197 #[.int .i64 0, .int .i64 n] w fun e w' => e = .returned (.tuple #[.int .i64 0, .int .i64 20]) ∧ Below w.heap.size w w'
  zzero : ∀ (w : World), Calls Tryz.prog 197 #[.int .i64 0, .int .i64 0] w fun e w' => e = .returned (.tuple #[.int .i64 1, .int .i64 0]) ∧ Below w.heap.size w w'
  zpos : ∀ (n : Int) (w : World), 0 < n → n ≤ 9223372036854775807 → Calls Tryz.prog 197 #[.int .i64 0, .int .i64 n] w fun e w' => e = .returned (.tuple #[.int .i64 0, .int .i64 0]) ∧ Below w.heap.size w w'
  yes : ∀ (a : Nat) (n : Int) (w : World), a < 8192 → a ≠ 0 → -9223372036854775808 ≤ n → n ≤ 9223372036854775807 → Calls Tryz.prog 197 #[.int .i64 a, .int .i64 n] w fun e w' => e = .returned (.tuple #[.int .i64 (gz a n : Nat), .int .i64 0]) ∧ Below w.heap.size w w'
def ExpC : Prop := ∀ (n : Int) (w : World), -9223372036854775808 ≤ n → n ≤ 9223372036854775807 → Calls Tryz.prog 170 #[.int .i64 n] w fun e w' => e = .returned (.int .i64 (gz 2 n : Nat)) ∧ Below w.heap.size w w'
end Go.Proofs.YtgamakejaknagaaGreat

/-
  The code of layer 2 (gf), as it landed: element, timesW, product, power, turns, and from them Mul, Inv, Pow, Exp, Log return what the face asks.
-/
namespace Go.Proofs.YtgamakejaknagaaGreat
open Go.RowKit
set_option linter.unusedVariables false
set_option maxRecDepth 8192

theorem and1_i64 (n : Int) : bits .and .i64 n 1 = n % 2 := by
  have h127 : (BitVec.ofInt 64 1).toNat = 2 ^ 1 - 1 := by decide
  have key : (BitVec.ofInt 64 n &&& BitVec.ofInt 64 1).toNat = (n % ((2 ^ 64 : Nat) : Int)).toNat % 2 ^ 1 := by
    rw [BitVec.toNat_and, BitVec.toNat_ofInt, h127, Nat.and_two_pow_sub_one_eq_mod]
  show IntKind.i64.wrap ((BitVec.ofInt 64 n &&& BitVec.ofInt 64 1).toNat : Nat) = n % 2
  rw [key, IntKind.wrap_i64]
  omega
theorem xor_i64 (a b : Nat) (ha : a < 9223372036854775808) (hb : b < 9223372036854775808) : bits .xor .i64 (a : Int) (b : Int) = ((a ^^^ b : Nat) : Int) := by
  have hx : a ^^^ b < 2 ^ 63 := Nat.xor_lt_two_pow (by omega) (by omega)
  have h1 : (BitVec.ofInt 64 (a : Int)).toNat = a := by
    rw [BitVec.ofInt_natCast, BitVec.toNat_ofNat]; exact Nat.mod_eq_of_lt (by omega)
  have h2 : (BitVec.ofInt 64 (b : Int)).toNat = b := by
    rw [BitVec.ofInt_natCast, BitVec.toNat_ofNat]; exact Nat.mod_eq_of_lt (by omega)
  show IntKind.i64.wrap ((BitVec.ofInt 64 (a : Int) ^^^ BitVec.ofInt 64 (b : Int)).toNat : Int) = _
  rw [BitVec.toNat_xor, h1, h2, IntKind.wrap_i64]
  omega

set_option maxHeartbeats 400000 in
theorem element_any (a : Int) (w : World) : Calls Tryz.prog 207 #[.int .i64 a] w fun e w' => e = .returned (.bool (isE a)) ∧ w = w' := by
  by_cases h0 : 0 ≤ a
  · go_enter Tryz.func207, Tryz.ntmps207
    go_wp2
    go_ret
    exact ⟨ret_bool (by unfold isE; rw [decide_eq_decide]; omega), rfl⟩
  · go_enter Tryz.func207, Tryz.ntmps207
    go_wp2
    go_ret
    exact ⟨ret_bool (by unfold isE; symm; rw [decide_eq_false_iff_not]; omega), rfl⟩

set_option maxHeartbeats 400000 in
set_option maxRecDepth 100000 in
theorem timesW_any (a : Nat) (w : World) (ha : a < 8192) : Calls Tryz.prog 209 #[.int .i64 a] w fun e w' => e = .returned (.int .i64 (shl1 a : Nat)) ∧ w = w' := by
  have HS : Hid (shl1 a = if 2 * a < 8192 then 2 * a else (2 * a) ^^^ 8219) := rfl
  by_cases h : 2 * a < 8192
  · go_enter Tryz.func209, Tryz.ntmps209
    go_wp2
    go_ret
    exact ⟨ret_int (by rw [HS.out, if_pos h]; omega), rfl⟩
  · have HX : Hid (bits .xor .i64 (2 * (a : Int)) 8219 = ((2 * a ^^^ 8219 : Nat) : Int)) := by
      have hx := xor_i64 (2 * a) 8219 (by omega) (by omega)
      rw [show ((2 * a : Nat) : Int) = 2 * (a : Int) from by omega, show ((8219 : Nat) : Int) = 8219 from rfl] at hx
      exact hx
    go_enter Tryz.func209, Tryz.ntmps209
    go_wp2
    go_ret
    exact ⟨ret_int (by rw [HS.out, if_neg h]; rw [Int.mul_comm]; exact HX.out), rfl⟩

set_option maxHeartbeats 1600000 in
set_option maxRecDepth 100000 in
theorem product_any (a b : Nat) (w : World) (ha : a < 8192) (hb : b < 8192) :
    Calls Tryz.prog 204 #[.int .i64 a, .int .i64 b] w fun e w' => e = .returned (.int .i64 (gmul a b : Nat)) ∧ w = w' := by
  go_enter Tryz.func204, Tryz.ntmps204
  go_wp2
  go_loop [0, 1, 5] (fun x y o => ∃ k : Nat, k ≤ 13 ∧ x = .int .i64 (shlN a k : Nat) ∧ y = .int .i64 ((b / 2 ^ k : Nat) : Int) ∧ o = .int .i64 (gmulTo a b k : Nat)) (fun _ y _ => (intOf y).toNat)
  case atStart => exact ⟨0, by omega, rfl, by simp, rfl⟩
  case round =>
    obtain ⟨k, hk, rfl, rfl, rfl⟩ := hrel
    have HB : Hid (b / 2 ^ (k + 1) = b / 2 ^ k / 2) := div_step b k
    have HM : Hid (gmulTo a b (k + 1) = gmulTo a b k ^^^ (if b / 2 ^ k % 2 = 1 then shlN a k else 0)) := by
      show gmulTo a b k ^^^ (if b.testBit k then shlN a k else 0) = _
      rw [testBit_div]; simp
    have HS : Hid (shlN a (k + 1) = shl1 (shlN a k)) := rfl
    have HE : Hid (b / 2 ^ k = 0 → gmulTo a b k = gmul a b) := fun h => gmul_stop a b k h hk
    have HK : Hid (b / 2 ^ k ≠ 0 → k < 13) := fun h => div_big13 b k hb h
    have h1 : b / 2 ^ k ≤ b := Nat.div_le_self _ _
    have h2 := gmulTo_lt a b k ha
    have h3 := shlN_lt a k ha
    generalize b / 2 ^ k = n at *
    generalize gmulTo a b k = o at *
    generalize shlN a k = s at *
    by_cases h0 : n = 0
    · subst h0
      have HF : Hid (o = gmul a b) := HE.out rfl
      go_wp2
      go_ret
      exact ⟨ret_int (by rw [HF.out]), rfl⟩
    · have hpos : 0 < n := by omega
      have hk13 : k < 13 := HK.out h0
      have ea := and1_i64 n
      by_cases hd : n % 2 = 1
      · have hq : (((n : Int) % 2) == 1) = true := by simp; omega
        go_wp2_with fail
        refine (timesW_any s _ h3).mono ?_
        rintro e w' ⟨rfl, rfl⟩
        go_wp2_with fail
        go_round
        case rel => exact ⟨k + 1, by omega, by rw [HS.out], by rw [HB.out]; go_num, by rw [HM.out, if_pos hd, xor_i64 _ _ (by omega) (by omega)]⟩
        case measure => simp [intOf]; omega
      · have hq : (((n : Int) % 2) == 1) = false := by simp; omega
        go_wp2_with fail
        refine (timesW_any s _ h3).mono ?_
        rintro e w' ⟨rfl, rfl⟩
        go_wp2_with fail
        go_round
        case rel => exact ⟨k + 1, by omega, by rw [HS.out], by rw [HB.out]; go_num, by rw [HM.out, if_neg hd]; rw [Nat.xor_zero]⟩
        case measure => simp [intOf]; omega
set_option maxHeartbeats 1600000 in
set_option maxRecDepth 100000 in
theorem power_any (a n : Nat) (w : World) (ha : a < 8192) (hn : n < 9223372036854775808) :
    Calls Tryz.prog 190 #[.int .i64 a, .int .i64 n] w fun e w' => e = .returned (.int .i64 (gpow a n : Nat)) ∧ w = w' := by
  go_enter Tryz.func190, Tryz.ntmps190
  go_wp2
  go_step3
  go_wp2
  go_step3
  go_wp2
  go_loop [0, 1, 5] (fun x y o => ∃ a' n' o' : Nat, a' < 8192 ∧ o' < 8192 ∧ n' ≤ n ∧ gmul o' (gpow a' n') = gpow a n ∧ x = .int .i64 a' ∧ y = .int .i64 n' ∧ o = .int .i64 o') (fun _ y _ => (intOf y).toNat)
  case atStart => exact ⟨a, n, 1, ha, by decide, Nat.le_refl _, one_gmul _ (gpow_lt a n ha), rfl, rfl, rfl⟩
  case round =>
    obtain ⟨a', n', o', h1, h2, h3, h4, rfl, rfl, rfl⟩ := hrel
    have HR : Hid (gmul o' (gpow a' n') = gpow a n) := h4
    clear h4
    by_cases h0 : n' = 0
    · subst h0
      have HF : Hid (o' = gpow a n) := by
        show _ = _
        rw [← HR.out]
        exact (gmul_one o' h2).symm
      go_wp2
      go_ret
      exact ⟨ret_int (by rw [HF.out]), rfl⟩
    · have hpos : 0 < n' := by omega
      have hm1 := gmul_lt a' a' h1
      have hm2 := gmul_lt o' a' h2
      have ea := and1_i64 n'
      by_cases hd : n' % 2 = 1
      · have HN := pow_rel_odd a' n' a n o' h1 h2 hd HR.out
        have HN' : Hid (gmul (gmul o' a') (gpow (gmul a' a') (n' / 2)) = gpow a n) := HN
        clear HN
        have hq : (((n' : Int) % 2) == 1) = true := by simp; omega
        go_wp2_with fail
        refine (product_any o' a' _ h2 h1).mono ?_
        rintro e w' ⟨rfl, rfl⟩
        go_wp2_with fail
        refine (product_any a' a' _ h1 h1).mono ?_
        rintro e w' ⟨rfl, rfl⟩
        go_wp2_with fail
        go_round
        case rel => exact ⟨_, n' / 2, _, hm1, hm2, by omega, HN'.out, rfl, by go_num, rfl⟩
        case measure => simp [intOf]; omega
      · have HN := pow_rel_even a' n' a n o' h1 hd HR.out
        have HN' : Hid (gmul o' (gpow (gmul a' a') (n' / 2)) = gpow a n) := HN
        clear HN
        have hq : (((n' : Int) % 2) == 1) = false := by simp; omega
        go_wp2_with fail
        refine (product_any a' a' _ h1 h1).mono ?_
        rintro e w' ⟨rfl, rfl⟩
        go_wp2_with fail
        go_round
        case rel => exact ⟨_, n' / 2, _, hm1, h2, by omega, HN'.out, rfl, by go_num, rfl⟩
        case measure => simp [intOf]; omega
theorem power_int (a : Nat) (y : Int) (w : World) (ha : a < 8192) (h2 : 0 ≤ y) (h3 : y < 9223372036854775808) :
    Calls Tryz.prog 190 #[.int .i64 a, .int .i64 y] w fun e w' => e = .returned (.int .i64 (gpow a y.toNat : Nat)) ∧ w = w' := by
  obtain ⟨b, rfl⟩ := Int.eq_ofNat_of_zero_le h2
  exact power_any a b w ha (by omega)

set_option maxHeartbeats 800000 in
theorem turns_any (n : Int) (w : World) (h1 : -9223372036854775808 ≤ n) (h2 : n ≤ 9223372036854775807) :
    Calls Tryz.prog 191 #[.int .i64 n] w fun e w' => e = .returned (.int .i64 (n % 8191)) ∧ w = w' := by
  by_cases h0 : 0 ≤ n
  · have hm : 0 ≤ n % 8191 ∧ n % 8191 < 8191 := by omega
    go_enter Tryz.func191, Tryz.ntmps191
    go_wp2
    go_ret
    exact ⟨rfl, rfl⟩
  · have ht := tmod_neg n (by omega)
    have HT : Hid (n.tmod 8191 = -((-n) % 8191)) := ht
    have hb : -8190 ≤ n.tmod 8191 ∧ n.tmod 8191 ≤ 0 := by omega
    have he : Hid (n.tmod 8191 < 0 → n.tmod 8191 + 8191 = n % 8191) := fun h => by omega
    have he0 : Hid (¬ n.tmod 8191 < 0 → n.tmod 8191 = n % 8191) := fun h => by omega
    clear ht HT
    by_cases hr : n.tmod 8191 < 0
    · go_enter Tryz.func191, Tryz.ntmps191
      go_wp2
      go_ret
      exact ⟨ret_int (he.out hr), rfl⟩
    · go_enter Tryz.func191, Tryz.ntmps191
      go_wp2
      go_ret
      exact ⟨ret_int (he0.out hr), rfl⟩

theorem isE_of (a : Nat) (h : a < 8192) : isE (a : Int) = true := isE_nat h
set_option maxHeartbeats 800000 in
set_option maxRecDepth 100000 in
theorem powC : PowC where
  no := by
    intro a n w ha _ _
    go_enter Tryz.func197, Tryz.ntmps197
    go_wp2_with fail
    refine (element_any a _).mono ?_
    rintro e w' ⟨rfl, rfl⟩
    rw [ha]
    go_wp2_with fail
    go_ret2
    exact ⟨rfl, Below.refl _ _⟩
  zneg := by
    intro n w h0 h1
    go_enter Tryz.func197, Tryz.ntmps197
    go_wp2_with fail
    refine (element_any 0 _).mono ?_
    rintro e w' ⟨rfl, rfl⟩
    rw [show isE 0 = true from rfl]
    go_wp2_with fail
    go_ret2
    exact ⟨rfl, Below.refl _ _⟩
  zzero := by
    intro w
    go_enter Tryz.func197, Tryz.ntmps197
    go_wp2_with fail
    refine (element_any 0 _).mono ?_
    rintro e w' ⟨rfl, rfl⟩
    rw [show isE 0 = true from rfl]
    go_wp2_with fail
    refine (power_int 0 0 _ (by decide) (by decide) (by decide)).mono ?_
    rintro e w' ⟨rfl, rfl⟩
    rw [show gpow 0 (0 : Int).toNat = 1 from rfl]
    go_wp2_with fail
    go_ret2
    exact ⟨rfl, Below.refl _ _⟩
  zpos := by
    intro n w h0 h1
    have HZ : Hid (gpow 0 n.toNat = 0) := by
      show _ = _
      rw [show n.toNat = (n.toNat - 1) + 1 from by omega]
      exact zero_gpow _
    go_enter Tryz.func197, Tryz.ntmps197
    go_wp2_with fail
    refine (element_any 0 _).mono ?_
    rintro e w' ⟨rfl, rfl⟩
    rw [show isE 0 = true from rfl]
    go_wp2_with fail
    refine (power_int 0 n _ (by decide) (by omega) (by omega)).mono ?_
    rintro e w' ⟨rfl, rfl⟩
    rw [HZ.out]
    go_wp2_with fail
    go_ret2
    exact ⟨rfl, Below.refl _ _⟩
  yes := by
    intro a n w ha h0 h1 h2
    have HG : Hid (gpow a (n % 8191).toNat = gz a n) := rfl
    have hp : 0 < a := by omega
    go_enter Tryz.func197, Tryz.ntmps197
    go_wp2_with fail
    refine (element_any a _).mono ?_
    rintro e w' ⟨rfl, rfl⟩
    rw [isE_of a ha]
    go_wp2_with fail
    refine (turns_any n _ h1 h2).mono ?_
    rintro e w' ⟨rfl, rfl⟩
    go_wp2_with fail
    refine (power_int a (n % 8191) _ ha (by omega) (by omega)).mono ?_
    rintro e w' ⟨rfl, rfl⟩
    rw [HG.out]
    go_wp2_with fail
    go_ret2
    exact ⟨rfl, Below.refl _ _⟩

set_option maxHeartbeats 800000 in
set_option maxRecDepth 100000 in
theorem invC : InvC where
  no := by
    intro a w ha
    go_enter Tryz.func174, Tryz.ntmps174
    go_wp2_with fail
    refine (powC.no a (-1) _ ha (by decide) (by decide)).mono ?_
    rintro e w1 ⟨rfl, q1⟩
    go_wp2_with fail
    go_ret2
    exact ⟨rfl, q1⟩
  zero := by
    intro w
    go_enter Tryz.func174, Tryz.ntmps174
    go_wp2_with fail
    refine (powC.zneg (-1) _ (by decide) (by decide)).mono ?_
    rintro e w1 ⟨rfl, q1⟩
    go_wp2_with fail
    go_ret2
    exact ⟨rfl, q1⟩
  yes := by
    intro a w ha h0
    have HG : Hid (gz a (-1) = ginv a) := gz_neg_one a
    go_enter Tryz.func174, Tryz.ntmps174
    go_wp2_with fail
    refine (powC.yes a (-1) _ ha h0 (by decide) (by decide)).mono ?_
    rintro e w1 ⟨rfl, q1⟩
    rw [HG.out]
    go_wp2_with fail
    go_ret2
    exact ⟨rfl, q1⟩

set_option maxHeartbeats 800000 in
set_option maxRecDepth 100000 in
theorem expC : ExpC := by
  intro n w h1 h2
  have HG : Hid (gpow 2 (n % 8191).toNat = gz 2 n) := rfl
  go_enter Tryz.func170, Tryz.ntmps170
  go_wp2_with fail
  refine (turns_any n _ h1 h2).mono ?_
  rintro e w' ⟨rfl, rfl⟩
  go_wp2_with fail
  refine (power_int 2 (n % 8191) _ (by decide) (by omega) (by omega)).mono ?_
  rintro e w' ⟨rfl, rfl⟩
  rw [HG.out]
  go_wp2_with fail
  go_ret
  exact ⟨rfl, Below.refl _ _⟩

end Go.Proofs.YtgamakejaknagaaGreat
