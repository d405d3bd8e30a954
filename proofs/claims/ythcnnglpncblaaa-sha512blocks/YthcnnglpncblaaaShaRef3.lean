/-
  Layer 13's reference: Greater, above, frac, Primes, Start, Rounds.
-/
import Derived.Test.YthcnnglpncblaaaShaRef2
namespace Go.Proofs.Ythcnnglpncblaaa
open Go.RowKit
set_option linter.unusedVariables false
set_option maxRecDepth 8192

set_option maxHeartbeats 3200000 in
theorem greater13_any (a b : List Nat) (aa ab : Option Addr) (la ca lb cb : Nat) (w : World) (ha : Row .i64 w aa la ca (nI a)) (hb : Row .i64 w ab lb cb (nI b)) (da : Dig a) (db : Dig b) (hla : la ≤ 100) (hlb : lb ≤ 100) :
    Calls Try.prog 36 #[.slice aa la ca, .slice ab lb cb] w fun e w' => e = .returned (.bool (decide (vL b < vL a))) ∧ w = w' := by
  have HA : Hid (a.length = la) := by have := ha.hlen; rwa [nI_length] at this
  have HBl : Hid (b.length = lb) := by have := hb.hlen; rwa [nI_length] at this
  obtain ⟨N, hN⟩ : ∃ N : Nat, ((N = la ∧ lb ≤ la) ∨ (N = lb ∧ la < lb)) := by
    rcases Nat.lt_or_ge la lb with h | h
    · exact ⟨lb, .inr ⟨rfl, h⟩⟩
    · exact ⟨la, .inl ⟨rfl, h⟩⟩
  have HVa : Hid (vTo (dg a) N = vL a) := vL_to a N (by rw [HA.out]; omega)
  have HVb : Hid (vTo (dg b) N = vL b) := vL_to b N (by rw [HBl.out]; omega)
  have hN1 : la ≤ N ∧ lb ≤ N ∧ N ≤ 100 := by omega
  have hstart : ∀ (Q : Prop), ((lb : Int) ≤ (la : Int) → N = la → Q) → ((la : Int) < (lb : Int) → N = lb → Q) → Q := fun Q h1 h2 => by
    rcases hN with ⟨h, h'⟩ | ⟨h, h'⟩
    · exact h1 (by omega) h
    · exact h2 (by omega) h
  apply hstart
  · intro hle hNe
    subst hNe
    clear hstart hN
    go_enter Try.func36, Try.ntmps36
    go_wp2
    go_loop [5] (fun y => ∃ k : Nat, k ≤ N ∧ y = .int .i64 ((k : Int) - 1) ∧ Hid (∀ j, k ≤ j → j < N → dg a j = dg b j)) (fun y => (intOf y + 1).toNat)
    case atStart => exact ⟨N, Nat.le_refl _, by go_num, fun j h1 h2 => by omega⟩
    case round =>
      obtain ⟨k, hk, rfl, HE⟩ := hrel
      by_cases h0 : k = 0
      · subst h0
        have HF : Hid (decide (vL b < vL a) = false) := by
          show _ = _
          rw [decide_eq_false_iff_not, ← HVa.out, ← HVb.out, vTo_congr (fun i hi => HE.out i (Nat.zero_le _) hi)]
          omega
        go_wp2
        go_ret
        exact ⟨ret_bool HF.out.symm, rfl⟩
      · have hto : ((k : Int) - 1).toNat = k - 1 := by omega
        have hk0 : (0 : Int) ≤ (k : Int) - 1 := by omega
        have HNE : Hid (dg a (k - 1) ≠ dg b (k - 1) → decide (vL b < vL a) = decide (dg b (k - 1) < dg a (k - 1))) := fun hne => by
          rw [decide_eq_decide, ← HVa.out, ← HVb.out]
          exact (vTo_above (i := k - 1) (by omega) da.at db.at (fun j h1 h2 => HE.out j (by omega) h2) hne).symm
        have HEQ : Hid (dg a (k - 1) = dg b (k - 1) → ∀ j, k - 1 ≤ j → j < N → dg a j = dg b j) := fun he j h1 h2 => by
          by_cases e : j = k - 1
          · rw [e]; exact he
          · exact HE.out j (by omega) h2
        clear HE
        have fin : ∀ x y : Nat, dg a (k - 1) = x → dg b (k - 1) = y → Hid ((x ≠ y → decide (vL b < vL a) = decide (y < x)) ∧ (x = y → ∀ j, k - 1 ≤ j → j < N → dg a j = dg b j)) := by
          rintro x y rfl rfl
          exact ⟨HNE.out, HEQ.out⟩
        clear HNE HEQ
        have hk1 : (k : Int) - 1 < (N : Int) := by omega
        obtain ⟨b1, o1, rfl, hb1, hc1⟩ := ha.hcell (by omega)
        have hd1 := hc1 (k - 1) (by omega)
        clear hc1
        rw [nI_dg] at hd1
        by_cases hjo : k - 1 < lb
        · obtain ⟨b2, o2, rfl, hb2, hc2⟩ := hb.hcell (by omega)
          have hd2 := hc2 (k - 1) hjo
          clear hc2
          rw [nI_dg] at hd2
          have hk2 : (k : Int) - 1 < (lb : Int) := by omega
          have HF := fin _ _ rfl rfl
          clear fin
          generalize hxa : dg a (k - 1) = x at *
          generalize hya : dg b (k - 1) = y at *
          clear hxa hya
          by_cases hxy : x = y
          · have hq : ((x : Int) != (y : Int)) = false := by simp; omega
            have HG : Hid (∀ j, k - 1 ≤ j → j < N → dg a j = dg b j) := HF.out.2 hxy
            have HXY : Hid (x = y) := hxy
            clear HF hxy
            go_wp2
            go_round
            case rel => exact ⟨k - 1, by omega, by go_num, HG⟩
            case measure => simp [intOf]; omega
          · have hq : ((x : Int) != (y : Int)) = true := by simp; omega
            have HG : Hid (decide (vL b < vL a) = decide (y < x)) := HF.out.1 hxy
            have HXY : Hid (¬ x = y) := hxy
            clear HF hxy
            go_wp2
            go_ret
            exact ⟨ret_bool (by rw [HG.out, decide_eq_decide] <;> omega), rfl⟩
        · have hz : dg b (k - 1) = 0 := dg_past (by rw [HBl.out]; omega)
          have hk2 : ¬ (k : Int) - 1 < (lb : Int) := by omega
          have HF := fin _ 0 rfl hz
          clear fin hz
          generalize hxa : dg a (k - 1) = x at *
          clear hxa
          by_cases hxy : x = 0
          · have hq : ((x : Int) != 0) = false := by simp; omega
            have HG : Hid (∀ j, k - 1 ≤ j → j < N → dg a j = dg b j) := HF.out.2 hxy
            have HXY : Hid (x = 0) := hxy
            clear HF hxy
            go_wp2
            go_round
            case rel => exact ⟨k - 1, by omega, by go_num, HG⟩
            case measure => simp [intOf]; omega
          · have hq : ((x : Int) != 0) = true := by simp; omega
            have HG : Hid (decide (vL b < vL a) = decide (0 < x)) := HF.out.1 hxy
            have HXY : Hid (¬ x = 0) := hxy
            clear HF hxy
            go_wp2
            go_ret
            exact ⟨ret_bool (by rw [HG.out, decide_eq_decide] <;> omega), rfl⟩
  · intro hle hNe
    subst hNe
    clear hstart hN
    go_enter Try.func36, Try.ntmps36
    go_wp2
    go_loop [5] (fun y => ∃ k : Nat, k ≤ N ∧ y = .int .i64 ((k : Int) - 1) ∧ Hid (∀ j, k ≤ j → j < N → dg a j = dg b j)) (fun y => (intOf y + 1).toNat)
    case atStart => exact ⟨N, Nat.le_refl _, by go_num, fun j h1 h2 => by omega⟩
    case round =>
      obtain ⟨k, hk, rfl, HE⟩ := hrel
      by_cases h0 : k = 0
      · subst h0
        have HF : Hid (decide (vL b < vL a) = false) := by
          show _ = _
          rw [decide_eq_false_iff_not, ← HVa.out, ← HVb.out, vTo_congr (fun i hi => HE.out i (Nat.zero_le _) hi)]
          omega
        go_wp2
        go_ret
        exact ⟨ret_bool HF.out.symm, rfl⟩
      · have hto : ((k : Int) - 1).toNat = k - 1 := by omega
        have hk0 : (0 : Int) ≤ (k : Int) - 1 := by omega
        have HNE : Hid (dg a (k - 1) ≠ dg b (k - 1) → decide (vL b < vL a) = decide (dg b (k - 1) < dg a (k - 1))) := fun hne => by
          rw [decide_eq_decide, ← HVa.out, ← HVb.out]
          exact (vTo_above (i := k - 1) (by omega) da.at db.at (fun j h1 h2 => HE.out j (by omega) h2) hne).symm
        have HEQ : Hid (dg a (k - 1) = dg b (k - 1) → ∀ j, k - 1 ≤ j → j < N → dg a j = dg b j) := fun he j h1 h2 => by
          by_cases e : j = k - 1
          · rw [e]; exact he
          · exact HE.out j (by omega) h2
        clear HE
        have fin : ∀ x y : Nat, dg a (k - 1) = x → dg b (k - 1) = y → Hid ((x ≠ y → decide (vL b < vL a) = decide (y < x)) ∧ (x = y → ∀ j, k - 1 ≤ j → j < N → dg a j = dg b j)) := by
          rintro x y rfl rfl
          exact ⟨HNE.out, HEQ.out⟩
        clear HNE HEQ
        have hk1 : (k : Int) - 1 < (N : Int) := by omega
        obtain ⟨b1, o1, rfl, hb1, hc1⟩ := hb.hcell (by omega)
        have hd1 := hc1 (k - 1) (by omega)
        clear hc1
        rw [nI_dg] at hd1
        by_cases hjo : k - 1 < la
        · obtain ⟨b2, o2, rfl, hb2, hc2⟩ := ha.hcell (by omega)
          have hd2 := hc2 (k - 1) hjo
          clear hc2
          rw [nI_dg] at hd2
          have hk2 : (k : Int) - 1 < (la : Int) := by omega
          have HF := fin _ _ rfl rfl
          clear fin
          generalize hxa : dg a (k - 1) = x at *
          generalize hya : dg b (k - 1) = y at *
          clear hxa hya
          by_cases hxy : x = y
          · have hq : ((x : Int) != (y : Int)) = false := by simp; omega
            have HG : Hid (∀ j, k - 1 ≤ j → j < N → dg a j = dg b j) := HF.out.2 hxy
            have HXY : Hid (x = y) := hxy
            clear HF hxy
            go_wp2
            go_round
            case rel => exact ⟨k - 1, by omega, by go_num, HG⟩
            case measure => simp [intOf]; omega
          · have hq : ((x : Int) != (y : Int)) = true := by simp; omega
            have HG : Hid (decide (vL b < vL a) = decide (y < x)) := HF.out.1 hxy
            have HXY : Hid (¬ x = y) := hxy
            clear HF hxy
            go_wp2
            go_ret
            exact ⟨ret_bool (by rw [HG.out, decide_eq_decide] <;> omega), rfl⟩
        · have hz : dg a (k - 1) = 0 := dg_past (by rw [HA.out]; omega)
          have hk2 : ¬ (k : Int) - 1 < (la : Int) := by omega
          have HF := fin 0 _ hz rfl
          clear fin hz
          generalize hya : dg b (k - 1) = y at *
          clear hya
          by_cases hxy : 0 = y
          · have hq : (0 != (y : Int)) = false := by simp; omega
            have HG : Hid (∀ j, k - 1 ≤ j → j < N → dg a j = dg b j) := HF.out.2 hxy
            have HXY : Hid (0 = y) := hxy
            clear HF hxy
            go_wp2
            go_round
            case rel => exact ⟨k - 1, by omega, by go_num, HG⟩
            case measure => simp [intOf]; omega
          · have hq : (0 != (y : Int)) = true := by simp; omega
            have HG : Hid (decide (vL b < vL a) = decide (y < 0)) := HF.out.1 hxy
            have HXY : Hid (¬ 0 = y) := hxy
            clear HF hxy
            go_wp2
            go_ret
            exact ⟨ret_bool (by rw [HG.out, decide_eq_decide] <;> omega), rfl⟩
end Go.Proofs.Ythcnnglpncblaaa
