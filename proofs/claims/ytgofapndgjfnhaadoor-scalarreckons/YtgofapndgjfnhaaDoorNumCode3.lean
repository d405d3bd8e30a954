/-
  The code of layer 15 (nums), as it landed: change, word.
-/
import Derived.Test.YtgofapndgjfnhaaDoorNumCode
namespace Go.Proofs.YtgofapndgjfnhaaDoor.N
open Go.RowKit
set_option linter.unusedVariables false
set_option maxRecDepth 8192

set_option maxHeartbeats 1600000 in
theorem change_any (U V n off len cap blen bcap : Nat) (t : Int) (z : List Nat) (ba : Option Addr) (T : TypeId) (g : Nat) (w0 w : World) (hA : Arr w g T .u8 (nI (digL U n))) (hr : Row .u8 w0 ba blen bcap (nI z)) (hq : Below g w0 w) (hg : w0.heap.size ≤ g)
    (dz : Dig z) (h1 : -255 ≤ t) (h2 : t ≤ 255) (hV : (V : Int) = (U : Int) + t * ((256 ^ off * vL z : Nat) : Int)) (hU1 : U < 256 ^ (off + len)) (hV1 : V < 256 ^ (off + len)) (hbl : blen ≤ len) (hln : off + len ≤ n) (hn : n ≤ 1000000) :
    Calls Tryd.prog 65 #[.slice (some ⟨g, off, none⟩) len cap, .slice ba blen bcap, .int .i64 t] w fun e w' => e = .returned (.tuple #[]) ∧ Arr w' g T .u8 (nI (digL V n)) ∧ Below g w w' := by
  have HLz : Hid (z.length = blen) := by have := hr.hlen; rwa [nI_length] at this
  have hUn : U < 256 ^ n := Nat.lt_of_lt_of_le hU1 (Nat.pow_le_pow_right (by decide) hln)
  have HVU : Hid (vL (digL U n) = U) := vL_digL_lt hUn
  have HV : Hid ((V : Int) = (vL (digL U n) : Int) + t * ((256 ^ off * vL z : Nat) : Int)) := by show _ = _; rw [HVU.out]; exact hV
  have HU1 : Hid (vL (digL U n) < 256 ^ (off + len)) := by show _ < _; rw [HVU.out]; exact hU1
  have HV1 : Hid (V < 256 ^ (off + len)) := hV1
  have HDL : Hid ((digL U n).length = n) := digL_length U n
  have HDD : Hid (Dig (digL U n)) := digL_dig U n
  clear hV hU1 hV1 hUn HVU
  generalize digL U n = l at *
  go_enter Tryd.func65, Tryd.ntmps65
  go_wp2
  go_loopw [6, 12] (fun c y wr => ∃ (k : Nat) (cc : Int) (out : List Nat), k ≤ blen ∧ y = .int .i64 (k : Int) ∧ c = .int .i64 cc ∧ Hid (ChgI l z t off out k cc) ∧ Hid (Arr wr g T .u8 (nI out)) ∧ Hid (Below g w wr)) (fun _ y _ => blen - (intOf y).toNat)
  case atStart => exact ⟨0, 0, l, Nat.zero_le _, rfl, rfl, ChgI.begin HDD.out, hA, Below.refl _ _⟩
  case round =>
    clear hA
    obtain ⟨k, c, out, hk, rfl, rfl, HC, HA, HB⟩ := hrel
    have hlo := HC.out.lo
    have hhi := HC.out.hi
    by_cases hlt : k < blen
    · have hin : off + k < n := by omega
      obtain ⟨bB, oB, rfl, hbB, hcB⟩ := (hr.below (hq.trans HB.out) hg).hcell (by omega)
      have hcB1 := hcB k hlt
      clear hcB
      rw [nI_dg] at hcB1
      have HOL : Hid (out.length = n) := by show _ = _; rw [HC.out.len]; exact HDL.out
      have hcell := HA.out.cell (off + k) (by rw [nI_length, HOL.out]; exact hin)
      rw [nI_dg] at hcell
      have hfz := HA.out.unfrozen (off + k)
      have hx2 := HC.out.dig.at (off + k)
      have htb := byte_times h1 h2 (dz.at k)
      have hx1 := dz.at k
      have HN : Hid (∀ x, x = c + (dg out (off + k) : Int) + t * (dg z k : Int) → ChgI l z t off (out.set (off + k) (x % 256).toNat) (k + 1) (x / 256)) := fun x hx => HC.out.next dz h1 h2 (by rw [HDL.out]; exact hin) hx
      have HS : Hid (∀ x : Int, Arr (wr.setCell ⟨g, off + k, none⟩ (.int .u8 (x % 256))) g T .u8 (nI (out.set (off + k) (x % 256).toNat))) := fun x => by
        have := HA.out.set (by rw [nI_length, HOL.out]; unfold maxLen; omega) (off + k) (((x % 256).toNat : Nat) : Int)
        rw [nI_set, show (((x % 256).toNat : Nat) : Int) = x % 256 from by omega] at this
        exact this
      generalize dg z k = x1 at *
      generalize dg out (off + k) = x2 at *
      generalize htt : t * (x1 : Int) = tb at *
      have HT : Hid (t * (x1 : Int) = tb) := htt
      have HN1 := HN.out (c + ((x2 : Int) + tb)) (by omega)
      have HS1 := HS.out (c + ((x2 : Int) + tb))
      clear HN HS
      go_wp2
      go_roundw
      case rel => exact ⟨k + 1, (c + ((x2 : Int) + tb)) / 256, out.set (off + k) ((c + ((x2 : Int) + tb)) % 256).toNat, by omega, by go_num, by go_num, HN1, HS1, HB.out.setCell (Nat.le_refl _) _⟩
      case measure => simp [intOf]; omega
    · obtain rfl : k = blen := by omega
      clear hlt hk
      go_wp2
      go_loopw [6, 9] (fun c y ws => ∃ (j : Nat) (cc : Int) (out : List Nat), k ≤ j ∧ j ≤ len ∧ y = .int .i64 (j : Int) ∧ c = .int .i64 cc ∧ Hid (ChgI l z t off out j cc) ∧ Hid (Arr ws g T .u8 (nI out)) ∧ Hid (Below g w ws)) (fun _ y _ => len - (intOf y).toNat)
      case atStart => exact ⟨k, c, out, Nat.le_refl _, hbl, rfl, rfl, HC, HA, HB⟩
      case round =>
        clear HA HB HC hlo hhi
        obtain ⟨j, c, out, hkj, hj, rfl, rfl, HC, HA, HB⟩ := hrel
        have hlo := HC.out.lo
        have hhi := HC.out.hi
        by_cases hc : c = 0
        · subst hc
          have HF : Hid (out = digL V n) := HC.out.done (by rw [HLz.out]; exact hkj) HDL.out HV.out
          have A := HA.out
          rw [HF.out] at A
          go_wp2
          go_end0
          exact ⟨rfl, A, HB.out⟩
        · have hjl : j < len := HC.out.room HDD.out (by rw [HLz.out]; exact hkj) HV.out HU1.out HV1.out hc
          have hin : off + j < n := by omega
          have HOL : Hid (out.length = n) := by show _ = _; rw [HC.out.len]; exact HDL.out
          have hcell := HA.out.cell (off + j) (by rw [nI_length, HOL.out]; exact hin)
          rw [nI_dg] at hcell
          have hfz := HA.out.unfrozen (off + j)
          have hx2 := HC.out.dig.at (off + j)
          have HZ0 : Hid (dg z j = 0) := dg_past (by rw [HLz.out]; exact hkj)
          have HN : Hid (∀ x, x = c + (dg out (off + j) : Int) → ChgI l z t off (out.set (off + j) (x % 256).toNat) (j + 1) (x / 256)) := fun x hx => HC.out.next dz h1 h2 (by rw [HDL.out]; exact hin) (by rw [HZ0.out, hx]; simp)
          have HS : Hid (∀ x : Int, Arr (wr.setCell ⟨g, off + j, none⟩ (.int .u8 (x % 256))) g T .u8 (nI (out.set (off + j) (x % 256).toNat))) := fun x => by
            have := HA.out.set (by rw [nI_length, HOL.out]; unfold maxLen; omega) (off + j) (((x % 256).toNat : Nat) : Int)
            rw [nI_set, show (((x % 256).toNat : Nat) : Int) = x % 256 from by omega] at this
            exact this
          generalize dg out (off + j) = x2 at *
          have HN1 := HN.out (c + (x2 : Int)) rfl
          have HS1 := HS.out (c + (x2 : Int))
          have hq0 : (c != 0) = true := by simp; exact hc
          have HC0 : Hid (c ≠ 0) := hc
          clear HN HS hc
          go_wp2
          go_roundw
          case rel => exact ⟨j + 1, (c + (x2 : Int)) / 256, out.set (off + j) ((c + (x2 : Int)) % 256).toNat, by omega, by omega, by go_num, by go_num, HN1, HS1, HB.out.setCell (Nat.le_refl _) _⟩
          case measure => simp [intOf]; omega
theorem or_byte (a b : Nat) (hb : b < 256) : (a * 256) ||| b = a * 256 + b := by
  have := Nat.two_pow_add_eq_or_of_lt (i := 8) hb a
  rw [Nat.mul_comm, ← this]
theorem vL_up {z : List Nat} (dz : Dig z) {k : Nat} (hk : 0 < k) : vL (z.drop (k - 1)) = vL (z.drop k) * 256 + dg z (k - 1) := by
  rw [vL_drop dz, vL_drop dz, dg_of dz]
  have e : 256 ^ k = 256 ^ (k - 1) * 256 := by rw [← Nat.pow_succ, show (k - 1).succ = k from by omega]
  rw [e, ← Nat.div_div_eq_div_mul]
  omega
set_option maxHeartbeats 800000 in
theorem word_any (z : List Nat) (a : Option Addr) (len cap : Nat) (w : World) (dz : Dig z) (hr : Row .u8 w a len cap (nI z)) (hl : len ≤ 8) :
    Calls Tryd.prog 84 #[.slice a len cap] w fun e w' => e = .returned (.int .u64 (vL z : Int)) ∧ w = w' := by
  have HL : Hid (z.length = len) := by have := hr.hlen; rwa [nI_length] at this
  go_enter Tryd.func84, Tryd.ntmps84
  go_wp2
  go_loop [3, 4] (fun v y => ∃ k : Nat, k ≤ len ∧ y = .int .i64 ((k : Int) - 1) ∧ v = .int .u64 ((vL (z.drop k) : Nat) : Int)) (fun _ y => (intOf y + 1).toNat)
  case atStart => exact ⟨len, Nat.le_refl _, by go_num, by rw [List.drop_of_length_le (by rw [HL.out]; exact Nat.le_refl _)]; rfl⟩
  case round =>
    obtain ⟨k, hk, rfl, rfl⟩ := hrel
    by_cases h0 : k = 0
    · subst h0
      rw [List.drop_zero]
      go_wp2
      go_ret
      exact ⟨rfl, rfl⟩
    · have hto : ((k : Int) - 1).toNat = k - 1 := by omega
      have hk0 : (0 : Int) ≤ (k : Int) - 1 := by omega
      have hk1 : (k : Int) - 1 < (len : Int) := by omega
      obtain ⟨b1, o1, rfl, hb1, hc1⟩ := hr.hcell (by omega)
      have hd1 := hc1 (k - 1) (by omega)
      clear hc1
      rw [nI_dg] at hd1
      have HU : Hid (vL (z.drop (k - 1)) = vL (z.drop k) * 256 + dg z (k - 1)) := vL_up dz (by omega)
      have hx := dz.at (k - 1)
      have hpl : vL (z.drop k) < 256 ^ 7 := Nat.lt_of_lt_of_le (dz.drop k).vL_lt (Nat.pow_le_pow_right (by decide) (by rw [List.length_drop, HL.out]; omega))
      generalize vL (z.drop k) = p at *
      generalize dg z (k - 1) = x at *
      have ho : bits .or .u64 (((p * 256 : Nat) : Int)) (x : Int) = ((p * 256 + x : Nat) : Int) := by rw [u64_or_nat _ _ (by omega) (by omega), or_byte p x hx]
      have hp1 : (p : Int) * 256 = ((p * 256 : Nat) : Int) := by omega
      have hpl2 : p * 256 + x < 18446744073709551616 := by omega
      have hpl3 : p * 256 < 18446744073709551616 := by omega
      generalize p * 256 + x = px at *
      generalize p * 256 = p256 at *
      go_wp2
      go_round
      case rel => exact ⟨k - 1, by omega, by go_num, by rw [HU.out]⟩
      case measure => simp [intOf]; omega
end Go.Proofs.YtgofapndgjfnhaaDoor.N
