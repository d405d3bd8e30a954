/-
  Layer 1: the contracts of bits and of its reference, over the seat's program: each returns what the plain functions give; nothing old turns.
-/
import Derived.Test.YtagppgdigabbmaaBitsPlain
import Derived.Test.YtagppgdigabbmaaBase
import Derived.Test.YtagppgdigabbmaaRows
namespace Go.Proofs.Ytagppgdigabbmaa
open Go.RowKit
set_option linter.unusedVariables false
set_option maxRecDepth 8192

theorem Try.info3 : (Try.prog.info? 3).map (fun i => (i.zero, i.size, i.bytes)) = some (some (.int .i64 0), 1, 8) := by kernel_rfl
theorem Try.info5 : (Try.prog.info? 5).map (fun i => (i.zero, i.size, i.bytes)) = some (some (.int .u8 0), 1, 1) := by kernel_rfl

/-- Is there a bit i? -/
def hasB (len : Nat) (i : Int) : Bool := decide (0 ≤ i ∧ i < 8 * (len : Int))

theorem fin_and1 : ∀ c : Fin 256, bits BinOp.and IntKind.i64 (c.val : Int) 1 = (c.val : Int) % 2 := by decide +kernel

theorem shr_le (c : Int) (k : Nat) (h0 : 0 ≤ c) (h1 : c ≤ 255) : 0 ≤ c / 2 ^ k ∧ c / 2 ^ k ≤ 255 := by
  have hp : (0 : Int) < 2 ^ k := Int.pow_pos (by decide)
  refine ⟨Int.ediv_nonneg h0 (by omega), ?_⟩
  have := Int.ediv_le_self (a := c) (2 ^ k) h0
  omega

theorem and_bit (c : Int) (k : Nat) (h0 : 0 ≤ c) (h1 : c ≤ 255) : bits BinOp.and IntKind.i64 (c / 2 ^ k) 1 = bitAt c k :=
  of_fin (P := fun c => bits BinOp.and IntKind.i64 c 1 = c % 2) fin_and1 _ (shr_le c k h0 h1).1 (shr_le c k h0 h1).2

/-- The reference's At: the loop halves i % 8 times. -/
theorem half_step (c : Int) (k : Nat) : c / 2 ^ k / 2 = c / 2 ^ (k + 1) := by
  rw [Int.ediv_ediv_of_nonneg (Int.le_of_lt (Int.pow_pos (by decide))), Int.pow_succ]

theorem ones_step (z : List Int) (i k : Nat) (hk : k < 8) : onesTo z (8 * i + k) + bitAt (z[i]?.getD 0) k = onesTo z (8 * i + (k + 1)) := by
  rw [show 8 * i + (k + 1) = 8 * i + k + 1 from by omega, onesTo_succ]
  unfold bitI
  rw [show (8 * i + k) / 8 = i from by omega, show (8 * i + k) % 8 = k from by omega]

/-- Are all places there? -/
def inB (len : Nat) (ps : List Int) : Bool := ps.all (hasB len)

theorem inB_iff (len : Nat) (ps : List Int) : inB len ps = true ↔ inAll len ps := by
  unfold inB inAll hasB; simp

theorem inB_false (len : Nat) (ps : List Int) (k : Nat) (hk : k < ps.length) (h : hasB len (ps[k]?.getD 0) = false) : inB len ps = false := by
  rw [← Bool.not_eq_true, inB_iff]
  intro hin
  have := hin.idx k hk
  unfold hasB at h
  simp at h
  omega

theorem hasB_true {len : Nat} {i : Int} (h : hasB len i = true) : 0 ≤ i ∧ i < 8 * (len : Int) := by unfold hasB at h; simpa using h

theorem hasB_false {len : Nat} {i : Int} (h : hasB len i = false) : i < 0 ∨ 8 * (len : Int) ≤ i := by unfold hasB at h; simp at h; omega

theorem bitAt_nat (n k : Nat) : bitAt (n : Int) k = ((n / 2 ^ k % 2 : Nat) : Int) := by
  unfold bitAt; simp

theorem xor_range (x y : Int) (h0 : 0 ≤ x) (h1 : x ≤ 255) (g0 : 0 ≤ y) (g1 : y ≤ 255) : 0 ≤ bits .xor .u8 x y ∧ bits .xor .u8 x y ≤ 255 := by
  rw [u8_xor x y h0 (by omega) g0 (by omega)]
  have := @Nat.xor_lt_two_pow x.toNat y.toNat 8 (by omega) (by omega)
  omega

theorem xor_bit (x y : Int) (h0 : 0 ≤ x) (h1 : x ≤ 255) (g0 : 0 ≤ y) (g1 : y ≤ 255) (k : Nat) : (bitAt (bits .xor .u8 x y) k == 1) = (bitAt x k != bitAt y k) := by
  rw [u8_xor x y h0 (by omega) g0 (by omega)]
  have ex : x = (x.toNat : Int) := by omega
  have ey : y = (y.toNat : Int) := by omega
  rw [ex, ey]
  generalize x.toNat = m
  generalize y.toNat = n
  simp only [Int.toNat_natCast, bitAt_nat]
  have hx := Nat.testBit_xor m n k
  simp only [Nat.testBit_eq_decide_div_mod_eq] at hx
  have e1 : (m ^^^ n) / 2 ^ k % 2 = 0 ∨ (m ^^^ n) / 2 ^ k % 2 = 1 := by omega
  have e2 : m / 2 ^ k % 2 = 0 ∨ m / 2 ^ k % 2 = 1 := by omega
  have e3 : n / 2 ^ k % 2 = 0 ∨ n / 2 ^ k % 2 = 1 := by omega
  rcases e1 with e1 | e1 <;> rcases e2 with e2 | e2 <;> rcases e3 with e3 | e3 <;> rw [e1, e2, e3] at hx ⊢ <;> simp at hx ⊢

theorem bitI_at (z : List Int) (i k : Nat) (hk : k < 8) : bitI z (8 * i + k) = bitAt (z[i]?.getD 0) k := by
  unfold bitI
  rw [show (8 * i + k) / 8 = i from by omega, show (8 * i + k) % 8 = k from by omega]

theorem fin_xor : ∀ c : Fin 256, ∀ k : Fin 8, bits BinOp.xor IntKind.u8 (c.val : Int) (2 ^ k.val % 256) = flipB (c.val : Int) k.val := by decide +kernel

theorem xor_flip (c : Int) (k : Nat) (h0 : 0 ≤ c) (h1 : c ≤ 255) (hk : k < 8) : bits BinOp.xor IntKind.u8 c (2 ^ k % 256) = flipB c k :=
  of_fin (P := fun c => bits BinOp.xor IntKind.u8 c (2 ^ k % 256) = flipB c k) (fun c => fin_xor c ⟨k, hk⟩) c h0 h1

theorem pow_step (k : Nat) : (2 : Int) * 2 ^ k = 2 ^ (k + 1) := by rw [Int.pow_succ]; omega

theorem pow_bd (k : Nat) (hk : k ≤ 7) : (1 : Int) ≤ 2 ^ k ∧ (2 : Int) ^ k ≤ 128 := by
  have : ∀ k : Fin 8, (1 : Int) ≤ 2 ^ k.val ∧ (2 : Int) ^ k.val ≤ 128 := by decide
  exact this ⟨k, by omega⟩

theorem fin_mod : ∀ c : Fin 256, ∀ k : Fin 9, 0 ≤ (c.val : Int) % 2 ^ k.val ∧ (c.val : Int) % 2 ^ k.val ≤ 255 := by decide +kernel

theorem byte_mod (c : Int) (k : Nat) (h0 : 0 ≤ c) (h1 : c ≤ 255) (hk : k ≤ 8) : 0 ≤ c % 2 ^ k ∧ c % 2 ^ k ≤ 255 :=
  of_fin (P := fun c => 0 ≤ c % 2 ^ k ∧ c % 2 ^ k ≤ 255) (fun c => fin_mod c ⟨k, by omega⟩) c h0 h1

theorem put_val {z : List Int} (h : IsB z) (i : Nat) (hi : i < 8 * z.length) : ((putTo z i)[i / 8]?.getD 0 + wrap64 (2 ^ (i % 8) * bitI z i)) % 256 = (putTo z i)[i / 8]?.getD 0 + 2 ^ (i % 8) * bitI z i := by
  rw [putTo_at z i (i / 8) (by omega), show min 8 (i - 8 * (i / 8)) = i % 8 from by omega]
  have hz := h.idx (i / 8)
  have e := byte_part _ (i % 8) hz.1 hz.2 (by omega)
  have m := byte_mod _ (i % 8 + 1) hz.1 hz.2 (by omega)
  have p := pow_bd (i % 8) (by omega)
  have hw : wrap64 (2 ^ (i % 8) * bitI z i) = 2 ^ (i % 8) * bitI z i := by
    rcases bitI_01 z i with b | b <;> rw [b]
    · rw [Int.mul_zero]; exact IntWalk.wrap64_in _ ⟨by omega, by omega⟩
    · rw [Int.mul_one]; exact IntWalk.wrap64_in _ ⟨by omega, by omega⟩
  rw [hw]
  unfold bitI
  rw [← e]
  omega

set_option maxHeartbeats 400000 in
theorem ints_any (a c : Option Addr) (len cap len' cap' : Nat) (xs ys : List Int) (w : World) (hr : Row .i64 w a len cap xs) (hr' : Row .i64 w c len' cap' ys) :
    Calls Try.prog 21 #[.slice a len cap, .slice c len' cap'] w fun e w' => e = .returned (.bool (decide (xs = ys))) ∧ Below w.heap.size w w' := by
  have hm := hr.hmax
  have hc := hr.hcap
  have HL : Hid (xs.length = len) := hr.hlen
  have HL' : Hid (ys.length = len') := hr'.hlen
  unfold maxLen at hm
  by_cases hne : len = len'
  · subst hne
    have hq : ((len : Int) != (len : Int)) = false := by simp
    go_enter Try.func21, Try.ntmps21
    go_wp2
    go_loopw [5] (fun y wr => ∃ i : Nat, i ≤ len ∧ y = .int .i64 i ∧ (∀ j, j < i → xs[j]?.getD 0 = ys[j]?.getD 0) ∧ ∃ nn, wr = w.drewN nn) (fun y _ => len - (intOf y).toNat)
    case atStart => exact ⟨0, Nat.zero_le _, rfl, fun j hj => absurd hj (by omega), 0, rfl⟩
    case round =>
      obtain ⟨i, hi, rfl, hall0, nn, rfl⟩ := hrel
      have hall : Hid (∀ j, j < i → xs[j]?.getD 0 = ys[j]?.getD 0) := hall0
      clear hall0
      by_cases hlt : i < len
      · obtain ⟨b, off, rfl, hbs, hcell⟩ := hr.hcell (by omega)
        obtain ⟨b', off', rfl, hbs', hcell'⟩ := hr'.hcell (by omega)
        have hc1 := hcell i hlt
        have hc2 := hcell' i hlt
        clear hcell hcell'
        have hlt' : (i : Int) < (len : Int) := by omega
        have hfn : Hid (xs[i]?.getD 0 ≠ ys[i]?.getD 0 → decide (xs = ys) = false) := fun hn => by
          rw [decide_eq_false_iff_not]
          rintro rfl
          exact hn rfl
        generalize hp : xs[i]?.getD 0 = p at *
        have HP : Hid (xs[i]?.getD 0 = p) := hp
        clear hp
        generalize hp : ys[i]?.getD 0 = q at *
        have HQ : Hid (ys[i]?.getD 0 = q) := hp
        clear hp
        by_cases hpq : p = q
        · have hb : (p != q) = false := by simp [hpq]
          have HE : Hid (p = q) := hpq
          clear hpq
          go_wp2
          go_quiet (fail)
          go_wp2
          go_roundw
          case rel =>
            refine ⟨i + 1, by omega, by go_num, fun j hj => ?_, _, rfl⟩
            by_cases e : j = i
            · subst e; rw [HP.out, HQ.out]; exact HE.out
            · exact hall.out j (by omega)
          case measure => simp [intOf]; omega
        · have hb : (p != q) = true := by simp [hpq]
          have hf := hfn.out hpq
          have HF : Hid (decide (xs = ys) = false) := hf
          clear hpq hf
          go_wp2
          go_quiet (fail)
          go_wp2
          go_ret
          exact ⟨ret_bool HF.out.symm, below_drewN (below_drewN (Below.refl _ _) _) _⟩
      · have hf : Hid (decide (xs = ys) = true) := by
          show decide (xs = ys) = true
          rw [decide_eq_true_iff]
          apply List.ext_getElem (by rw [HL.out, HL'.out])
          intro j h1 h2
          have := hall.out j (by have := HL.out; omega)
          rwa [List.getElem?_eq_getElem h1, List.getElem?_eq_getElem h2] at this
        go_wp2
        go_ret
        exact ⟨ret_bool hf.out.symm, below_drewN (Below.refl _ _) _⟩
  · have hf : Hid (decide (xs = ys) = false) := by
      show decide (xs = ys) = false
      rw [decide_eq_false_iff_not]
      rintro rfl
      have := HL.out; have := HL'.out; omega
    have hq : ((len : Int) != (len' : Int)) = true := by simp; omega
    go_enter Try.func21, Try.ntmps21
    go_wp2
    go_ret
    exact ⟨ret_bool hf.out.symm, Below.refl _ _⟩

end Go.Proofs.Ytagppgdigabbmaa
