/-
  The code of layer 5 (bch), as it landed: mayBe, moreBytes, times, product, raised, below, rest, Bits, Encode return what the face asks.
-/
import Derived.Test.YtjiaomkjebbkpabBchCodePlain
import Derived.Test.YtjiaomkjebbkpabBchFace
import Derived.Test.YtjiaomkjebbkpabBpolyCode5
namespace Go.Proofs.Ytjiaomkjebbkpab
open Go.RowKit
set_option linter.unusedVariables false

set_option maxHeartbeats 400000 in
theorem exp_same (n : Int) (w : World) (h1 : -9223372036854775808 ≤ n) (h2 : n ≤ 9223372036854775807) : Calls Try.prog 24 #[.int .i64 n] w fun e w' => e = .returned (.int .i64 (gz 2 n : Nat)) ∧ w = w' := by
  have HG : Hid (gpow 2 (n % 8191).toNat = gz 2 n) := rfl
  go_enter Try.func24, Try.ntmps24
  go_wp2_with fail
  refine (turns_any n _ h1 h2).mono ?_
  rintro e w' ⟨rfl, rfl⟩
  go_wp2_with fail
  refine (power_int 2 (n % 8191) _ (by decide) (by omega) (by omega)).mono ?_
  rintro e w' ⟨rfl, rfl⟩
  rw [HG.out]
  go_wp2_with fail
  go_ret
  exact ⟨rfl, rfl⟩
theorem exp_nat (n : Nat) (w : World) (h2 : n ≤ 9223372036854775807) : Calls Try.prog 24 #[.int .i64 (n : Int)] w fun e w' => e = .returned (.int .i64 (gpow 2 n : Nat)) ∧ w = w' := by
  have := exp_same (n : Int) w (by omega) (by omega)
  rwa [gz_nat 2 n (by decide) (by decide)] at this

set_option maxHeartbeats 1600000 in
set_option maxRecDepth 100000 in
theorem bval_same (a : Option Addr) (len cap : Nat) (z : List Int) (x : Nat) (w : World) (hr : Row .u8 w a len cap z) (hb : IsB z) (hsm : len ≤ 500) (hx : x < 8192) :
    Calls Try.prog 23 #[.slice a len cap, .int .i64 x] w fun e w' => e = .returned (.tuple #[.int .i64 (evl (bts z) x : Nat), .int .i64 0]) ∧ w = w' := by
  have hd := bdeg_any a len cap z w hr hb (by omega)
  have HE : Hid (evl (norm (bts z)) x = evl (bts z) x) := evl_eqv x (norm_eqv _)
  have HC : Hid (∀ i, (cf (norm (bts z)) i : Int) = bitI z i) := fun i => by rw [cf_norm, cf_bts_int]
  have h01 := is01_norm (is01_bts z)
  have hle := norm_bts_le z
  rw [hr.hlen] at hle
  generalize norm (bts z) = p at *
  generalize hpl : p.length = L at *
  have HL : Hid (p.length = L) := hpl
  clear hpl
  have hx0 : (0 : Int) ≤ (x : Int) := by omega
  have hx1 : (x : Int) < 8192 := by omega
  go_enter Try.func23, Try.ntmps23
  go_wp2_with fail
  refine hd.mono ?_
  rintro e w' ⟨rfl, rfl⟩
  clear hd
  go_wp2_with fail
  go_loop [6, 7] (fun o y => ∃ k : Nat, k ≤ L ∧ y = .int .i64 ((k : Int) - 1) ∧ o = .int .i64 (evl (p.drop k) x : Nat)) (fun _ y => (intOf y + 1).toNat)
  case atStart => exact ⟨L, Nat.le_refl _, rfl, by rw [List.drop_of_length_le (by have := HL.out; omega)]; rfl⟩
  case round =>
    obtain ⟨k, hk, rfl, rfl⟩ := hrel
    cases k with
    | zero =>
      go_wp2
      go_ret2
      exact ⟨by rw [← HE.out]; rfl, rfl⟩
    | succ m =>
      rw [show ((m + 1 : Nat) : Int) - 1 = (m : Int) from by omega]
      have hdp : IsP (p.drop (m + 1)) := fun y hy => h01.isP y (List.mem_of_mem_drop hy)
      have c1 := evl_lt hdp x hx
      have c2 := gmul_lt (evl (p.drop (m + 1)) x) x c1
      have HS : Hid (evl (p.drop m) x = gmul (evl (p.drop (m + 1)) x) x ^^^ cf p m) := by
        show _ = _
        rw [drop_cons p m (by have := HL.out; omega), gmul_comm _ x c1 hx, Nat.xor_comm]
        rfl
      have c3 := h01.cf m
      have HV : Hid (bitI z m = (cf p m : Int)) := (HC.out m).symm
      generalize evl (p.drop (m + 1)) x = o at *
      go_wp2_with fail
      refine (btimes_any o x _ c1 hx).mono ?_
      rintro e w' ⟨rfl, rfl⟩
      go_wp2_with fail
      refine (bcoef_any _ _ _ m z _ hr hb (by omega) (by omega)).mono ?_
      rintro e w' ⟨rfl, rfl⟩
      rw [HV.out]
      go_wp2_with fail
      go_round
      case rel => exact ⟨m, by omega, by go_num, by rw [HS.out, xor_i64 _ _ (by omega) (by omega)]⟩
      case measure => simp [intOf]

def mayD (t : Int) (len : Nat) : Bool := decide (1 ≤ t ∧ t ≤ 8 ∧ 1 ≤ len ∧ len ≤ 512)
set_option maxHeartbeats 800000 in
theorem mayBe_any (t : Int) (a : Option Addr) (len cap : Nat) (w : World) (hl : len ≤ 512) :
    Calls Try.prog 9 #[.int .i64 t, .slice a len cap] w fun e w' => e = .returned (.bool (mayD t len)) ∧ w = w' := by
  have h4' : (len : Int) ≤ 512 := by omega
  by_cases h1 : 1 ≤ t
  · by_cases h2 : t ≤ 8
    · by_cases h3 : 1 ≤ len
      · have HB : Hid (mayD t len = true) := by show _ = _; unfold mayD; rw [decide_eq_true_iff]; omega
        have h3' : (1 : Int) ≤ (len : Int) := by omega
        go_enter Try.func9, Try.ntmps9
        go_wp2
        go_ret
        exact ⟨ret_bool (by rw [HB.out]; try simp), rfl⟩
      · have HB : Hid (mayD t len = false) := by show _ = _; unfold mayD; rw [decide_eq_false_iff_not]; omega
        have h3' : (len : Int) < 1 := by omega
        go_enter Try.func9, Try.ntmps9
        go_wp2
        go_ret
        exact ⟨ret_bool (by rw [HB.out]; try simp), rfl⟩
    · have HB : Hid (mayD t len = false) := by show _ = _; unfold mayD; rw [decide_eq_false_iff_not]; omega
      have h2' : 8 < t := by omega
      go_enter Try.func9, Try.ntmps9
      go_wp2
      go_ret
      exact ⟨ret_bool (by rw [HB.out]; try simp), rfl⟩
  · have HB : Hid (mayD t len = false) := by show _ = _; unfold mayD; rw [decide_eq_false_iff_not]; omega
    have h1' : t < 1 := by omega
    go_enter Try.func9, Try.ntmps9
    go_wp2
    go_ret
    exact ⟨ret_bool (by rw [HB.out]; try simp), rfl⟩

set_option maxHeartbeats 400000 in
theorem moreBytes_any (t : Nat) (w : World) (ht : t ≤ 8) : Calls Try.prog 10 #[.int .i64 t] w fun e w' => e = .returned (.int .i64 (((13 * t + 7) / 8 : Nat) : Int)) ∧ w = w' := by
  go_enter Try.func10, Try.ntmps10
  go_wp2
  go_ret
  exact ⟨ret_int (by omega), rfl⟩

set_option maxHeartbeats 400000 in
theorem ctimes_any (a b : Nat) (w : World) (ha : a < 8192) (hb : b < 8192) :
    Calls Try.prog 30 #[.int .i64 a, .int .i64 b] w fun e w' => e = .returned (.int .i64 (gmul a b : Nat)) ∧ w = w' := by
  go_enter Try.func30, Try.ntmps30
  go_wp2_with fail
  refine (gfMul_same a b _ ha hb).mono ?_
  rintro e w' ⟨rfl, rfl⟩
  go_wp2_with fail
  go_ret
  exact ⟨rfl, rfl⟩

/-- A call hands back the list r. -/
def HandsL (w : World) (r : List Nat) (e : Ending) (w' : World) : Prop :=
  ∃ a cap, e = .returned (.slice a r.length cap) ∧ Row .i64 w' a r.length cap (ints r) ∧ Below w.heap.size w w'
set_option maxHeartbeats 400000 in
theorem cproduct_any (a c : Option Addr) (len cap len' cap' : Nat) (p q : List Nat) (w : World) (hr : Row .i64 w a len cap (ints p)) (hr' : Row .i64 w c len' cap' (ints q)) (hsm : len ≤ 10000) (hsm' : len' ≤ 10000) (hp : IsP p) (hq : IsP q) :
    Calls Try.prog 25 #[.slice a len cap, .slice c len' cap'] w (HandsL w (norm (mulL p q))) := by
  go_enter Try.func25, Try.ntmps25
  go_wp2_with fail
  refine (pmulC.yes a c len cap len' cap' p q _ hr hr' hsm hsm' hp hq).mono ?_
  rintro e w1 ⟨a1, cp1, rfl, hrow1, hb1⟩
  go_wp2_with fail
  go_ret
  exact ⟨a1, cp1, rfl, hrow1, hb1⟩

end Go.Proofs.Ytjiaomkjebbkpab
