/-
  The contracts of bits.has, bits.bit, small, bits.At, the reference's At: each returns what the plain functions give, and no cell turns.
-/
import Derived.Test.YtmdiblknjgkpoaaPlain
import Derived.Test.YtmdiblknjgkpoaaRows
import Derived.WalkKit
import Derived.WalkSpells
import Derived.WalkLawsBesides
namespace Go.Proofs.Ytmdiblknjgkpoaa
open Go.RowKit
set_option linter.unusedVariables false

/-- The slice (a, len, cap) reads in w as the numbers zs of the kind k. -/
structure Row (k : IntKind) (w : World) (a : Option Addr) (len cap : Nat) (zs : List Int) : Prop where
  hlen : zs.length = len
  hcap : len ≤ cap
  hmax : cap ≤ maxLen
  hnil : a = none → cap = 0
  hcell : 0 < len → ∃ b off, a = some ⟨b, off, none⟩ ∧ b < w.heap.size ∧ ∀ i, i < len → w.cell? ⟨b, off + i, none⟩ = some (.int k (zs[i]?.getD 0))

/-- Is there a bit i? -/
def hasB (len : Nat) (i : Int) : Bool := decide (0 ≤ i ∧ i < 8 * (len : Int))
def smallB (len len' : Nat) : Bool := decide (len ≤ 200 ∧ len' ≤ 300)

theorem ret_int {k : IntKind} {a b : Int} (h : a = b) : Ending.returned (.int k a) = .returned (.int k b) := by rw [h]
theorem ret_bool {a b : Bool} (h : a = b) : Ending.returned (.bool a) = .returned (.bool b) := by rw [h]

theorem fin_and1 : ∀ c : Fin 256, bits BinOp.and IntKind.i64 (c.val : Int) 1 = (c.val : Int) % 2 := by decide +kernel
theorem shr_le (c : Int) (k : Nat) (h0 : 0 ≤ c) (h1 : c ≤ 255) : 0 ≤ c / 2 ^ k ∧ c / 2 ^ k ≤ 255 := by
  have hp : (0 : Int) < 2 ^ k := Int.pow_pos (by decide)
  refine ⟨Int.ediv_nonneg h0 (by omega), ?_⟩
  have := Int.ediv_le_self (a := c) (2 ^ k) h0
  omega
theorem and_bit (c : Int) (k : Nat) (h0 : 0 ≤ c) (h1 : c ≤ 255) : bits BinOp.and IntKind.i64 (c / 2 ^ k) 1 = bitAt c k :=
  of_fin (P := fun c => bits BinOp.and IntKind.i64 c 1 = c % 2) fin_and1 _ (shr_le c k h0 h1).1 (shr_le c k h0 h1).2

set_option maxHeartbeats 400000 in
theorem bit_any (c : Int) (k : Nat) (w : World) (h0 : 0 ≤ c) (h1 : c ≤ 255) (hk : k < 8) :
    Calls Try.prog 22 #[.int .u8 c, .int .i64 k] w fun e w' => e = .returned (.int .i64 (bitAt c k)) ∧ w = w' := by
  have hs := shr_le c k h0 h1
  go_enter Try.func22, Try.ntmps22
  go_wp2
  go_ret
  exact ⟨ret_int (and_bit c k h0 h1), rfl⟩

set_option maxHeartbeats 400000 in
theorem has_any (a : Option Addr) (len cap : Nat) (i : Int) (w : World) (hl : len ≤ maxLen) (h1 : -9223372036854775808 ≤ i) (h2 : i ≤ 9223372036854775807) :
    Calls Try.prog 21 #[.slice a len cap, .int .i64 i] w fun e w' => e = .returned (.bool (hasB len i)) ∧ w = w' := by
  unfold maxLen at hl
  by_cases h0 : 0 ≤ i
  · go_enter Try.func21, Try.ntmps21
    go_wp2
    go_ret
    exact ⟨ret_bool (by unfold hasB; rw [decide_eq_decide]; omega), rfl⟩
  · go_enter Try.func21, Try.ntmps21
    go_wp2
    go_ret
    exact ⟨ret_bool (by unfold hasB; symm; rw [decide_eq_false_iff_not]; omega), rfl⟩

set_option maxHeartbeats 400000 in
theorem small_any (a c : Option Addr) (len cap len' cap' : Nat) (w : World) (hl : len ≤ maxLen) (hl' : len' ≤ maxLen) :
    Calls Try.prog 9 #[.slice a len cap, .slice c len' cap'] w fun e w' => e = .returned (.bool (smallB len len')) ∧ w = w' := by
  unfold maxLen at hl hl'
  by_cases h0 : len ≤ 200
  · go_enter Try.func9, Try.ntmps9
    go_wp2
    go_ret
    exact ⟨ret_bool (by unfold smallB; rw [decide_eq_decide]; omega), rfl⟩
  · go_enter Try.func9, Try.ntmps9
    go_wp2
    go_ret
    exact ⟨ret_bool (by unfold smallB; symm; rw [decide_eq_false_iff_not]; omega), rfl⟩

set_option maxHeartbeats 400000 in
theorem at_no (a : Option Addr) (len cap : Nat) (i : Int) (w : World) (hl : len ≤ maxLen) (h1 : -9223372036854775808 ≤ i) (h2 : i ≤ 9223372036854775807) (hh : hasB len i = false) :
    Calls Try.prog 11 #[.slice a len cap, .int .i64 i] w fun e w' => e = .returned (.tuple #[.int .i64 0, .int .i64 1]) ∧ w = w' := by
  go_enter Try.func11, Try.ntmps11
  go_wp2_with (go_at_call 21; refine (has_any _ _ _ _ _ hl h1 h2).mono ?_; rintro e w' ⟨rfl, rfl⟩; rw [hh])
  go_ret2
  exact ⟨rfl, rfl⟩

set_option maxHeartbeats 400000 in
theorem at_yes (a : Option Addr) (len cap : Nat) (i : Nat) (z : List Int) (w : World) (hr : Row .u8 w a len cap z) (hb : IsB z) (hi : i < 8 * len) (hsm : len ≤ 1000) :
    Calls Try.prog 11 #[.slice a len cap, .int .i64 i] w fun e w' => e = .returned (.tuple #[.int .i64 (bitI z i), .int .i64 0]) ∧ w = w' := by
  have hh : hasB len i = true := by unfold hasB; simp; omega
  have hm := hr.hmax
  have hc := hr.hcap
  obtain ⟨b, off, rfl, hbs, hcell⟩ := hr.hcell (by omega)
  have hm' : len ≤ maxLen := by omega
  have hc1 := hcell (i / 8) (by omega)
  have hz := hb.idx (i / 8)
  clear hcell hr hb
  unfold maxLen at hm
  have b1 : (-9223372036854775808 : Int) ≤ (i : Int) := by omega
  have b2 : (i : Int) ≤ 9223372036854775807 := by omega
  go_enter Try.func11, Try.ntmps11
  go_wp2_with (first | (go_at_call 21; refine (has_any _ _ _ (i : Int) _ hm' b1 b2).mono ?_; rintro e w' ⟨rfl, rfl⟩; rw [hh]) | (go_at_call 22; refine (bit_any _ (i % 8) _ hz.1 hz.2 (by omega)).mono ?_; rintro e w' ⟨rfl, rfl⟩))
  go_ret2
  exact ⟨rfl, rfl⟩

/-- The reference's At: the loop halves i % 8 times. -/
theorem half_step (c : Int) (k : Nat) : c / 2 ^ k / 2 = c / 2 ^ (k + 1) := by
  rw [Int.ediv_ediv_of_nonneg (Int.le_of_lt (Int.pow_pos (by decide))), Int.pow_succ]

set_option maxHeartbeats 400000 in
theorem refAt_any (a : Option Addr) (len cap : Nat) (i : Nat) (z : List Int) (w : World) (hr : Row .u8 w a len cap z) (hb : IsB z) (hi : i < 8 * len) (hsm : len ≤ 1000) :
    Calls Try.prog 20 #[.slice a len cap, .int .i64 i] w fun e w' => e = .returned (.int .i64 (bitI z i)) ∧ w = w' := by
  obtain ⟨b, off, rfl, hbs, hcell⟩ := hr.hcell (by omega)
  have hc1 := hcell (i / 8) (by omega)
  have hz := hb.idx (i / 8)
  have hfin : bitI z i = (z[i / 8]?.getD 0) / 2 ^ (i % 8) % 2 := rfl
  have HF : Hid (bitI z i = (z[i / 8]?.getD 0) / 2 ^ (i % 8) % 2) := hfin
  clear hcell hr hb hfin
  generalize z[i / 8]?.getD 0 = c at *
  go_enter Try.func20, Try.ntmps20
  go_wp2
  go_loop [5, 6] (fun x y => ∃ k : Nat, k ≤ i % 8 ∧ y = .int .i64 k ∧ x = .int .i64 (c / 2 ^ k)) (fun _ y => i % 8 - (intOf y).toNat)
  case atStart => exact ⟨0, Nat.zero_le _, rfl, by simp⟩
  case round =>
    obtain ⟨k, hk, rfl, rfl⟩ := hrel
    have hs := shr_le c k hz.1 hz.2
    by_cases hlt : k < i % 8
    · go_wp2
      go_round
      case rel => exact ⟨k + 1, by omega, by go_num, by rw [← half_step]⟩
      case measure => simp [intOf]; omega
    · have e : k = i % 8 := by omega
      subst e
      go_wp2
      go_ret
      exact ⟨ret_int HF.out.symm, rfl⟩

end Go.Proofs.Ytmdiblknjgkpoaa
