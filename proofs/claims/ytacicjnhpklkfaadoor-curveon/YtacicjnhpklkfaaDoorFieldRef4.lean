/-
  Layer 16's reference: digits.
-/
import Derived.Test.YtacicjnhpklkfaaDoorFieldRef3
import Derived.Test.YtacicjnhpklkfaaDoorFieldDigits
namespace Go.Proofs.YtacicjnhpklkfaaDoor.N
open Go.RowKit
set_option linter.unusedVariables false
set_option maxRecDepth 8192

/-- A number as 16 digits, as ints. -/
def dA (a : Nat) : Array Value := arr .i64 (D.digL a 16)
theorem dA_def (a : Nat) : dA a = arr .i64 (D.digL a 16) := rfl
theorem dA_size (a : Nat) : (dA a).size = 16 := by rw [dA_def, arr_size, D.digL_length]
theorem dA_one (a : Nat) : (dA a).all (·.oneCell') = true := arr_one _ _
theorem dA_zero : dA 0 = arr .i64 (List.replicate 16 0) := by rw [dA_def, D.digL_zero]
theorem dA_at (b k : Nat) (hk : k < 16) : (dA b)[k]? = some (.int .i64 ((D.dg (D.digL b 16) k : Nat) : Int)) := by
  rw [dA_def, arr_get _ _ k (by rw [D.digL_length]; exact hk)]
  rfl
attribute [irreducible] dA
theorem two_bytes (a k : Nat) : a / 256 ^ (2 * k) % 256 + 256 * (a / 256 ^ (2 * k + 1) % 256) = a / 65536 ^ k % 65536 := by
  have e1 : 256 ^ (2 * k) = 65536 ^ k := by rw [Nat.pow_mul]
  have e2 : a / 256 ^ (2 * k + 1) = a / 65536 ^ k / 256 := by rw [Nat.pow_succ, e1, Nat.div_div_eq_div_mul]
  rw [e1, e2]
  generalize a / 65536 ^ k = b
  omega
theorem Tryd.szD : (Tryd.prog.info? 62).map (·.size) = some 16 := by kernel_rfl
theorem zeroD (w : World) : (zeroValue 62).run Tryd.prog w = .ok (.agg (dA 0)) w := by rw [dA_zero]; kernel_rfl
theorem zeroD16 (w : World) : (zeroValue 62).run Tryd.prog w = .ok (.agg (arr .i64 (List.replicate 16 0))) w := by kernel_rfl
set_option maxHeartbeats 1600000 in
theorem digits_any (a : Nat) (w : World) : Calls Tryd.prog 46 #[.agg (bA a)] w fun e w' => e = .returned (.agg (dA a)) ∧ Below w.heap.size w w' := by
  have V0 := Vars.start w
  go_enter Tryd.func46, Tryd.ntmps46
  go_wp2_with (first
    | (refine wpList_boxV V0 1 22 _ rfl rfl rfl (bA a) rfl ?_; intro w1 g1 V1)
    | (refine wpList_allocV V1 2 62 rfl rfl rfl (dA 0) zeroD ?_; intro w2 g2 V2)
    | (refine wpList_allocV V2 3 62 rfl rfl rfl _ zeroD16 ?_; intro w3 g3 V3))
  clear V0 V1 V2
  have HL : Hid ((D.digL a 16).length = 16) := D.digL_length a 16
  go_loopw [4] (fun y wr => ∃ k : Nat, k ≤ 16 ∧ y = .int .i64 (k : Int) ∧ Hid (Vars w wr [⟨g3, 62, arr .i64 (fillQ (D.digL a 16) 16 k)⟩, ⟨g2, 62, dA 0⟩, ⟨g1, 22, bA a⟩])) (fun y _ => 16 - (intOf y).toNat)
  case atStart => exact ⟨0, by omega, rfl, by rw [show fillQ (D.digL a 16) 16 0 = List.replicate 16 0 from by simp [fillQ]]; exact V3⟩
  case round =>
    clear V3
    obtain ⟨k, hk, rfl, HV⟩ := hrel
    by_cases hlt : k < 16
    · have V4 := HV.out
      have hc1 : wr.cell? ⟨g1, 2 * k, none⟩ = some (.int .u8 ((a / 256 ^ (2 * k) % 256 : Nat) : Int)) := by rw [cell_of_row wr g1 _ _ _ _ (V4.at 2 rfl), bA_get a _ (by omega)]
      have hc2 : wr.cell? ⟨g1, 2 * k + 1, none⟩ = some (.int .u8 ((a / 256 ^ (2 * k + 1) % 256 : Nat) : Int)) := by rw [cell_of_row wr g1 _ _ _ _ (V4.at 2 rfl), bA_get a _ (by omega)]
      have hc3 := arr_cell (V4.at 0 rfl) k (by simp [fillQ, D.digL_length]; omega)
      have hfz := arr_unfrozen (V4.at 0 rfl) k
      have V5 := V4.setc 0 rfl k (D.dg (D.digL a 16) k)
      have e5 : (fillQ (D.digL a 16) 16 k).set k (D.dg (D.digL a 16) k) = fillQ (D.digL a 16) 16 (k + 1) := fillQ_next HL.out hlt
      rw [e5, D.dg_digL hlt, ← two_bytes a k] at V5
      have HV5 : Hid (Vars w (wr.setCell ⟨g3, k, none⟩ (.int .i64 ((a / 256 ^ (2 * k) % 256 + 256 * (a / 256 ^ (2 * k + 1) % 256) : Nat) : Int))) [⟨g3, 62, arr .i64 (fillQ (D.digL a 16) 16 (k + 1))⟩, ⟨g2, 62, dA 0⟩, ⟨g1, 22, bA a⟩]) := V5
      clear V4 V5 e5
      have hx9 : a / 256 ^ (2 * k) % 256 < 256 := Nat.mod_lt _ (by decide)
      have hy9 : a / 256 ^ (2 * k + 1) % 256 < 256 := Nat.mod_lt _ (by decide)
      generalize a / 256 ^ (2 * k) % 256 = x at *
      generalize a / 256 ^ (2 * k + 1) % 256 = y at *
      generalize (fillQ (D.digL a 16) 16 k)[k]?.getD 0 = old at *
      obtain ⟨k2, hk2⟩ : ∃ k2, 2 * k = k2 := ⟨_, rfl⟩
      rw [hk2] at hc1 hc2
      have e1 : IntKind.i64.wrap (2 * (k : Int)) = (k2 : Int) := by rw [IntKind.wrap_i64]; omega
      have e2 : IntKind.i64.wrap ((k2 : Int) + 1) = (k2 : Int) + 1 := by rw [IntKind.wrap_i64]; omega
      have e2b : ((k2 : Int) + 1).toNat = k2 + 1 := by omega
      have e2c : (0 : Int) ≤ (k2 : Int) + 1 := by omega
      have e2d : (k2 : Int) + 1 < 32 := by omega
      have e2e : (k2 : Int) < 32 := by omega
      obtain ⟨s, hs⟩ : ∃ s, x + 256 * y = s := ⟨_, rfl⟩
      rw [hs] at HV5
      obtain ⟨y2, hy2⟩ : ∃ y2, 256 * y = y2 := ⟨_, rfl⟩
      have e3 : IntKind.i64.wrap (256 * (y : Int)) = (y2 : Int) := by rw [IntKind.wrap_i64]; omega
      have e4 : IntKind.i64.wrap ((x : Int) + (y2 : Int)) = (s : Int) := by rw [IntKind.wrap_i64]; omega
      have e6 : (k : Int) < 16 := by omega
      clear hk2 hs hy2
      go_wp2
      go_region
      go_wp2
      go_roundw
      case rel => exact ⟨k + 1, by omega, by go_num, HV5.out.drew⟩
      case measure => simp [intOf]; omega
    · obtain rfl : k = 16 := by omega
      have V4 := HV.out
      rw [show fillQ (D.digL a 16) 16 16 = D.digL a 16 from by simp [fillQ, List.take_of_length_le (Nat.le_of_eq HL.out)], ← dA_def] at V4
      go_wp2_with (first
        | (refine wpList_loadV V4 0 rfl 24 _ rfl rfl rfl rfl Tryd.underlying62 Tryd.szD (dA_size _) ?_)
        | (refine wpList_storeV V4 1 rfl _ _ rfl rfl rfl (dA a) rfl rfl Tryd.szD (dA_size _) (dA_size _) (dA_one _) ?_; intro w5 V5))
      exact bodyPost_ret (resV1 rfl _ V5 1 rfl rfl Tryd.underlying62 Tryd.szD (dA_size _)) rfl ⟨rfl, V5.bel⟩
end Go.Proofs.YtacicjnhpklkfaaDoor.N
