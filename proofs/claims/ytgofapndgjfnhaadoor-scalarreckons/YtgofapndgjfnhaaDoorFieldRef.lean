/-
  Layer 16's reference: P, Full, Round.
-/
import Derived.Test.YtgofapndgjfnhaaDoorFieldCode
import Derived.Test.YtgofapndgjfnhaaDoorNumRef2
import Derived.Test.YtgofapndgjfnhaaDoorNumRef3
import Derived.Deep.LoopGhost
namespace Go.Proofs.YtgofapndgjfnhaaDoor.N
open Go.RowKit
set_option linter.unusedVariables false
set_option maxRecDepth 8192

/-- The bytes of p. -/
def pL : List Nat := 237 :: (List.replicate 30 255 ++ [127])
theorem pL_dig : Dig pL := by unfold Dig pL; decide
theorem pL_val : vL pL = fP := by decide +kernel
theorem nb_fP : nb fP = pL := nb_of ⟨pL_dig, fun _ => by decide⟩ pL_val
theorem pL_length : pL.length = 32 := by decide
/-- What is laid from the front on, noughts behind it. -/
def fillQ (L : List Nat) (n k : Nat) : List Nat := L.take k ++ List.replicate (n - k) 0
theorem fillQ_next {L : List Nat} {n k : Nat} (hL : L.length = n) (hk : k < n) : (fillQ L n k).set k (dg L k) = fillQ L n (k + 1) := by
  unfold fillQ dg
  have hl : (L.take k).length = k := by simp; omega
  rw [List.set_append_right _ _ (by omega), hl, Nat.sub_self, List.take_add_one, List.getElem?_eq_getElem (show k < L.length by omega), show n - k = (n - (k + 1)) + 1 from by omega, List.replicate_succ, List.set_cons_zero, List.append_assoc]
  rfl
def slLen : Value → Nat
  | .slice _ n _ => n
  | _ => 0
theorem fill_tail {v n : Nat} (hv : v < 256 ^ n) (hn : n ≤ 32) : arr .u8 (fillQ (digL v 32) 32 n) = bA v := by
  rw [bA_def]
  congr 1
  apply list_dg
  · simp [fillQ, digL_length]; omega
  · intro i
    unfold fillQ
    rcases Nat.lt_or_ge i n with h | h
    · unfold dg
      rw [List.getElem?_append_left (by rw [List.length_take, digL_length]; omega), List.getElem?_take, if_pos h]
    · have e1 : dg ((digL v 32).take n ++ List.replicate (32 - n) 0) i = 0 := by
        unfold dg
        rw [List.getElem?_append_right (by rw [List.length_take, digL_length]; omega), List.getElem?_replicate]
        split <;> rfl
      rw [e1]
      rcases Nat.lt_or_ge i 32 with h2 | h2
      · rw [dg_digL h2, Nat.div_eq_of_lt (Nat.lt_of_lt_of_le hv (Nat.pow_le_pow_right (by decide) h))]
      · rw [dg_past (by rw [digL_length]; exact h2)]
set_option maxHeartbeats 1600000 in
theorem refFull_any (z : List Nat) (dz : Dig z) (a : Option Addr) (len cap : Nat) (w : World) (hr : Row .u8 w a len cap (nI z)) (hl : len ≤ 32) :
    Calls Tryd.prog 27 #[.slice a len cap] w fun e w' => e = .returned (.agg (bA (vL z))) ∧ Below w.heap.size w w' := by
  have HL : Hid (z.length = len) := by have := hr.hlen; rwa [nI_length] at this
  have HD : Hid (Dig z) := dz
  clear dz
  have V0 := Vars.start w
  go_enter Tryd.func27, Tryd.ntmps27
  go_wp2_with (first
    | (refine wpList_allocV V0 2 23 rfl rfl rfl (bA 0) zeroB ?_; intro w2 g2 V2)
    | (refine wpList_allocV V2 3 23 rfl rfl rfl _ zeroB32 ?_; intro w3 g3 V3))
  clear V0 V2
  go_loopw [4] (fun y wr => ∃ k : Nat, k ≤ len ∧ y = .int .i64 (k : Int) ∧ Hid (Vars w wr [⟨g3, 23, arr .u8 (fillQ (digL (vL z) 32) 32 k)⟩, ⟨g2, 23, bA 0⟩])) (fun y _ => len - (intOf y).toNat)
  case atStart => exact ⟨0, by omega, rfl, by rw [show fillQ (digL (vL z) 32) 32 0 = List.replicate 32 0 from by simp [fillQ]]; exact V3⟩
  case round =>
    clear V3
    obtain ⟨k, hk, rfl, HV⟩ := hrel
    by_cases hlt : k < len
    · have V4 := HV.out
      obtain ⟨b, off, rfl, hbs, hcell⟩ := (hr.below V4.bel (Nat.le_refl _)).hcell (by omega)
      have hc1 := hcell k hlt
      rw [nI_dg] at hc1
      clear hcell
      have hx9 := HD.out.at k
      have hc2 := arr_cell (V4.at 0 rfl) k (by simp [fillQ, digL_length]; omega)
      have hfz := arr_unfrozen (V4.at 0 rfl) k
      generalize (fillQ (digL (vL z) 32) 32 k)[k]?.getD 0 = old at *
      have V5 := V4.setc 0 rfl k (dg z k)
      have e5 : (fillQ (digL (vL z) 32) 32 k).set k (dg z k) = fillQ (digL (vL z) 32) 32 (k + 1) := by
        rw [dg_of HD.out k, ← dg_digL (x := vL z) (n := 32) (by omega)]
        exact fillQ_next (digL_length _ _) (by omega)
      rw [e5] at V5
      have HV5 : Hid (Vars w (wr.setCell ⟨g3, k, none⟩ (.int .u8 ((dg z k : Nat) : Int))) [⟨g3, 23, arr .u8 (fillQ (digL (vL z) 32) 32 (k + 1))⟩, ⟨g2, 23, bA 0⟩]) := V5
      clear V4 V5 e5
      generalize dg z k = x at *
      have hk32 : (k : Int) < 32 := by omega
      go_wp2
      go_roundw
      case rel => exact ⟨k + 1, by omega, by go_num, HV5⟩
      case measure => simp [intOf]; omega
    · obtain rfl : k = len := by omega
      have HE : Hid (arr .u8 (fillQ (digL (vL z) 32) 32 k) = bA (vL z)) := fill_tail (by have := HD.out.vL_lt; rwa [HL.out] at this) hl
      have V4 := HV.out
      rw [HE.out] at V4
      have hk0 : ¬ (k : Int) < (k : Int) := by omega
      go_wp2_with (first
        | (refine wpList_loadV V4 0 rfl 21 _ rfl rfl rfl rfl Tryd.underlying23 Tryd.szB (bA_size _) ?_)
        | (refine wpList_storeV V4 1 rfl _ _ rfl rfl rfl _ rfl rfl Tryd.szB (bA_size _) (bA_size _) (bA_one _) ?_; intro w5 V5))
      exact bodyPost_ret (resV1 rfl _ V5 1 rfl rfl Tryd.underlying23 Tryd.szB (bA_size _)) rfl ⟨rfl, V5.bel⟩
end Go.Proofs.YtgofapndgjfnhaaDoor.N
