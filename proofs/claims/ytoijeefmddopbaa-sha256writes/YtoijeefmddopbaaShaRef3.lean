/-
  Layer 13's reference: Greater, above, frac, Primes, Start, Rounds.
-/
import Derived.Test.YtoijeefmddopbaaShaRef2
namespace Go.Proofs.Ytoijeefmddopbaa
open Go.RowKit
set_option linter.unusedVariables false
set_option maxRecDepth 8192

set_option maxHeartbeats 3200000 in
theorem greater13_any (a b : List Nat) (aa ab : Option Addr) (la ca lb cb : Nat) (w : World) (ha : Row .i64 w aa la ca (nI a)) (hb : Row .i64 w ab lb cb (nI b)) (da : Dig a) (db : Dig b) (hla : la ≤ 100) (hlb : lb ≤ 100) :
    Calls Try.prog 59 #[.slice aa la ca, .slice ab lb cb] w fun e w' => e = .returned (.bool (decide (vL b < vL a))) ∧ w = w' := by
  have HA : Hid (a.length = la) := by have := ha.hlen; rwa [nI_length] at this
  have HBl : Hid (b.length = lb) := by have := hb.hlen; rwa [nI_length] at this
  obtain ⟨N, hN⟩ : ∃ N : Nat, ((N = la ∧ lb ≤ la) ∨ (N = lb ∧ la < lb)) := by
    rcases Nat.lt_or_ge la lb with h | h
    · exact ⟨lb, .inr ⟨rfl, h⟩⟩
    · exact ⟨la, .inl ⟨rfl, h⟩⟩
  have HVa : Hid (vTo (dg a) N = vL a) := vL_to a N (by rw [HA.out]; omega)
  have HVb : Hid (vTo (dg b) N = vL b) := vL_to b N (by rw [HBl.out]; omega)
  have hN1 : la ≤ N ∧ lb ≤ N ∧ N ≤ 100 := by omega
  have hstart : ∀ (Q : Prop), ((lb : Int) ≤ (la : Int) → N = la → Q) → ((la : Int) < (lb : Int) → N = lb → Q) → Q := fun Q h1 h2 => by
    rcases hN with ⟨h, h'⟩ | ⟨h, h'⟩
    · exact h1 (by omega) h
    · exact h2 (by omega) h
  apply hstart
  · intro hle hNe
    subst hNe
    clear hstart hN
    go_enter Try.func59, Try.ntmps59
    go_wp2
    go_loop [5] (fun y => ∃ k : Nat, k ≤ N ∧ y = .int .i64 ((k : Int) - 1) ∧ Hid (∀ j, k ≤ j → j < N → dg a j = dg b j)) (fun y => (intOf y + 1).toNat)
    case atStart => exact ⟨N, Nat.le_refl _, by go_num, fun j h1 h2 => by omega⟩
    case round =>
      obtain ⟨k, hk, rfl, HE⟩ := hrel
      by_cases h0 : k = 0
      · subst h0
        have HF : Hid (decide (vL b < vL a) = false) := by
          show _ = _
          rw [decide_eq_false_iff_not, ← HVa.out, ← HVb.out, vTo_congr (fun i hi => HE.out i (Nat.zero_le _) hi)]
          omega
        go_wp2
        go_ret
        exact ⟨ret_bool HF.out.symm, rfl⟩
      · have hto : ((k : Int) - 1).toNat = k - 1 := by omega
        have hk0 : (0 : Int) ≤ (k : Int) - 1 := by omega
        have HNE : Hid (dg a (k - 1) ≠ dg b (k - 1) → decide (vL b < vL a) = decide (dg b (k - 1) < dg a (k - 1))) := fun hne => by
          rw [decide_eq_decide, ← HVa.out, ← HVb.out]
          exact (vTo_above (i := k - 1) (by omega) da.at db.at (fun j h1 h2 => HE.out j (by omega) h2) hne).symm
        have HEQ : Hid (dg a (k - 1) = dg b (k - 1) → ∀ j, k - 1 ≤ j → j < N → dg a j = dg b j) := fun he j h1 h2 => by
          by_cases e : j = k - 1
          · rw [e]; exact he
          · exact HE.out j (by omega) h2
        clear HE
        have fin : ∀ x y : Nat, dg a (k - 1) = x → dg b (k - 1) = y → Hid ((x ≠ y → decide (vL b < vL a) = decide (y < x)) ∧ (x = y → ∀ j, k - 1 ≤ j → j < N → dg a j = dg b j)) := by
          rintro x y rfl rfl
          exact ⟨HNE.out, HEQ.out⟩
        clear HNE HEQ
        have hk1 : (k : Int) - 1 < (N : Int) := by omega
        obtain ⟨b1, o1, rfl, hb1, hc1⟩ := ha.hcell (by omega)
        have hd1 := hc1 (k - 1) (by omega)
        clear hc1
        rw [nI_dg] at hd1
        by_cases hjo : k - 1 < lb
        · obtain ⟨b2, o2, rfl, hb2, hc2⟩ := hb.hcell (by omega)
          have hd2 := hc2 (k - 1) hjo
          clear hc2
          rw [nI_dg] at hd2
          have hk2 : (k : Int) - 1 < (lb : Int) := by omega
          have HF := fin _ _ rfl rfl
          clear fin
          generalize hxa : dg a (k - 1) = x at *
          generalize hya : dg b (k - 1) = y at *
          clear hxa hya
          by_cases hxy : x = y
          · have hq : ((x : Int) != (y : Int)) = false := by simp; omega
            have HG : Hid (∀ j, k - 1 ≤ j → j < N → dg a j = dg b j) := HF.out.2 hxy
            have HXY : Hid (x = y) := hxy
            clear HF hxy
            go_wp2
            go_round
            case rel => exact ⟨k - 1, by omega, by go_num, HG⟩
            case measure => simp [intOf]; omega
          · have hq : ((x : Int) != (y : Int)) = true := by simp; omega
            have HG : Hid (decide (vL b < vL a) = decide (y < x)) := HF.out.1 hxy
            have HXY : Hid (¬ x = y) := hxy
            clear HF hxy
            go_wp2
            go_ret
            exact ⟨ret_bool (by rw [HG.out, decide_eq_decide] <;> omega), rfl⟩
        · have hz : dg b (k - 1) = 0 := dg_past (by rw [HBl.out]; omega)
          have hk2 : ¬ (k : Int) - 1 < (lb : Int) := by omega
          have HF := fin _ 0 rfl hz
          clear fin hz
          generalize hxa : dg a (k - 1) = x at *
          clear hxa
          by_cases hxy : x = 0
          · have hq : ((x : Int) != 0) = false := by simp; omega
            have HG : Hid (∀ j, k - 1 ≤ j → j < N → dg a j = dg b j) := HF.out.2 hxy
            have HXY : Hid (x = 0) := hxy
            clear HF hxy
            go_wp2
            go_round
            case rel => exact ⟨k - 1, by omega, by go_num, HG⟩
            case measure => simp [intOf]; omega
          · have hq : ((x : Int) != 0) = true := by simp; omega
            have HG : Hid (decide (vL b < vL a) = decide (0 < x)) := HF.out.1 hxy
            have HXY : Hid (¬ x = 0) := hxy
            clear HF hxy
            go_wp2
            go_ret
            exact ⟨ret_bool (by rw [HG.out, decide_eq_decide] <;> omega), rfl⟩
  · intro hle hNe
    subst hNe
    clear hstart hN
    go_enter Try.func59, Try.ntmps59
    go_wp2
    go_loop [5] (fun y => ∃ k : Nat, k ≤ N ∧ y = .int .i64 ((k : Int) - 1) ∧ Hid (∀ j, k ≤ j → j < N → dg a j = dg b j)) (fun y => (intOf y + 1).toNat)
    case atStart => exact ⟨N, Nat.le_refl _, by go_num, fun j h1 h2 => by omega⟩
    case round =>
      obtain ⟨k, hk, rfl, HE⟩ := hrel
      by_cases h0 : k = 0
      · subst h0
        have HF : Hid (decide (vL b < vL a) = false) := by
          show _ = _
          rw [decide_eq_false_iff_not, ← HVa.out, ← HVb.out, vTo_congr (fun i hi => HE.out i (Nat.zero_le _) hi)]
          omega
        go_wp2
        go_ret
        exact ⟨ret_bool HF.out.symm, rfl⟩
      · have hto : ((k : Int) - 1).toNat = k - 1 := by omega
        have hk0 : (0 : Int) ≤ (k : Int) - 1 := by omega
        have HNE : Hid (dg a (k - 1) ≠ dg b (k - 1) → decide (vL b < vL a) = decide (dg b (k - 1) < dg a (k - 1))) := fun hne => by
          rw [decide_eq_decide, ← HVa.out, ← HVb.out]
          exact (vTo_above (i := k - 1) (by omega) da.at db.at (fun j h1 h2 => HE.out j (by omega) h2) hne).symm
        have HEQ : Hid (dg a (k - 1) = dg b (k - 1) → ∀ j, k - 1 ≤ j → j < N → dg a j = dg b j) := fun he j h1 h2 => by
          by_cases e : j = k - 1
          · rw [e]; exact he
          · exact HE.out j (by omega) h2
        clear HE
        have fin : ∀ x y : Nat, dg a (k - 1) = x → dg b (k - 1) = y → Hid ((x ≠ y → decide (vL b < vL a) = decide (y < x)) ∧ (x = y → ∀ j, k - 1 ≤ j → j < N → dg a j = dg b j)) := by
          rintro x y rfl rfl
          exact ⟨HNE.out, HEQ.out⟩
        clear HNE HEQ
        have hk1 : (k : Int) - 1 < (N : Int) := by omega
        obtain ⟨b1, o1, rfl, hb1, hc1⟩ := hb.hcell (by omega)
        have hd1 := hc1 (k - 1) (by omega)
        clear hc1
        rw [nI_dg] at hd1
        by_cases hjo : k - 1 < la
        · obtain ⟨b2, o2, rfl, hb2, hc2⟩ := ha.hcell (by omega)
          have hd2 := hc2 (k - 1) hjo
          clear hc2
          rw [nI_dg] at hd2
          have hk2 : (k : Int) - 1 < (la : Int) := by omega
          have HF := fin _ _ rfl rfl
          clear fin
          generalize hxa : dg a (k - 1) = x at *
          generalize hya : dg b (k - 1) = y at *
          clear hxa hya
          by_cases hxy : x = y
          · have hq : ((x : Int) != (y : Int)) = false := by simp; omega
            have HG : Hid (∀ j, k - 1 ≤ j → j < N → dg a j = dg b j) := HF.out.2 hxy
            have HXY : Hid (x = y) := hxy
            clear HF hxy
            go_wp2
            go_round
            case rel => exact ⟨k - 1, by omega, by go_num, HG⟩
            case measure => simp [intOf]; omega
          · have hq : ((x : Int) != (y : Int)) = true := by simp; omega
            have HG : Hid (decide (vL b < vL a) = decide (y < x)) := HF.out.1 hxy
            have HXY : Hid (¬ x = y) := hxy
            clear HF hxy
            go_wp2
            go_ret
            exact ⟨ret_bool (by rw [HG.out, decide_eq_decide] <;> omega), rfl⟩
        · have hz : dg a (k - 1) = 0 := dg_past (by rw [HA.out]; omega)
          have hk2 : ¬ (k : Int) - 1 < (la : Int) := by omega
          have HF := fin 0 _ hz rfl
          clear fin hz
          generalize hya : dg b (k - 1) = y at *
          clear hya
          by_cases hxy : 0 = y
          · have hq : (0 != (y : Int)) = false := by simp; omega
            have HG : Hid (∀ j, k - 1 ≤ j → j < N → dg a j = dg b j) := HF.out.2 hxy
            have HXY : Hid (0 = y) := hxy
            clear HF hxy
            go_wp2
            go_round
            case rel => exact ⟨k - 1, by omega, by go_num, HG⟩
            case measure => simp [intOf]; omega
          · have hq : (0 != (y : Int)) = true := by simp; omega
            have HG : Hid (decide (vL b < vL a) = decide (y < 0)) := HF.out.1 hxy
            have HXY : Hid (¬ 0 = y) := hxy
            clear HF hxy
            go_wp2
            go_ret
            exact ⟨ret_bool (by rw [HG.out, decide_eq_decide] <;> omega), rfl⟩
set_option maxHeartbeats 3200000 in
theorem above13_any (x pw p : Nat) (w : World) (hx : x < 549755813888) (hpw : pw ≤ 3) (hp : p < 65536) : Calls Try.prog 46 #[.int .i64 (x : Int), .int .i64 (pw : Int), .int .i64 (p : Int)] w fun e w' =>
    e = .returned (.bool (decide (p * 65536 ^ (2 * pw) < x ^ pw))) ∧ Below w.heap.size w w' := by
  obtain ⟨i0, hi0, hz0, hz1, hz2⟩ := info_parts Try.info3
  go_enter Try.func46, Try.ntmps46
  go_wp2_with fail
  refine (digits_any x _ hx).mono ?_
  rintro e w1 ⟨v1, rfl, n, hn, hxn, hown1, q1⟩
  obtain ⟨al, cl, rfl, rowl⟩ := row_of_owns hown1
  clear hown1
  have HVx : Hid (vL (digL x n) = x) := by show _ = _; rw [vL_digL]; exact Nat.mod_eq_of_lt hxn
  have HDx : Hid (Dig (digL x n)) := digL_dig x n
  clear hxn
  generalize digL x n = lx at *
  have hs1 := q1.size
  go_wp2_with fail
  have q2 := q1.alloc hs1 (.cells #[Value.int .i64 1] 3)
  have row1 : Row .i64 (w1.alloc (.cells #[Value.int .i64 1] 3)) (some ⟨w1.heap.size, 0, none⟩) 1 1 (nI [1]) := row_new .i64 w1 3 w1.heap.size rfl (nI [1]) 1 rfl (by decide) _ rfl
  have rowl2 := rowl.below (below_one w1 (.cells #[Value.int .i64 1] 3)) (Nat.le_refl _)
  generalize hw2 : w1.alloc (.cells #[Value.int .i64 1] 3) = w2 at *
  go_loopw [8, 9] (fun v y wr => ∃ (j : Nat) (out : List Nat) (a : Option Addr) (c : Nat), j ≤ pw ∧ y = .int .i64 (j : Int) ∧ v = .slice a out.length c ∧ Hid (out.length ≤ 1 + 4 * j) ∧ Hid (Dig out) ∧ Hid (vL out = x ^ j) ∧ Hid (Row .i64 wr a out.length c (nI out)) ∧ Hid (Below w2.heap.size w2 wr)) (fun _ y _ => pw - (intOf y).toNat)
  case atStart => exact ⟨0, [1], _, 1, Nat.zero_le _, rfl, rfl, Nat.le_refl _, by intro z hz; simp at hz; subst hz; decide, by show _ = _; simp [vL, vTo, dg], row1, Below.refl _ _⟩
  case round =>
    obtain ⟨j, out, a, c, hj, rfl, rfl, HL, HD, HV, HR, HB⟩ := hrel
    have hl := HL.out
    by_cases hlt : j < pw
    · have rl := rowl2.below HB.out (Nat.le_refl _)
      go_wp2_with fail
      refine (times13_any out lx _ _ _ _ _ _ _ HR.out rl HD.out HDx.out (by omega) (by omega)).mono ?_
      rintro e w3 ⟨v3, rfl, out3, hl3, hd3, hv3, hown3, q3⟩
      obtain ⟨a3, c3, rfl, row3⟩ := row_of_owns hown3
      have HV3 : Hid (vL out3 = x ^ (j + 1)) := by show _ = _; rw [hv3, HV.out, HVx.out, Nat.pow_succ]
      have HB3 : Hid (Below w2.heap.size w2 w3) := HB.out.trans (q3.mono HB.out.size)
      clear hv3 hown3
      have HL3 : Hid (out3.length ≤ 1 + 4 * (j + 1)) := by show _ ≤ _; omega
      rw [← hl3] at row3
      generalize out.length + n + 1 = L3 at *
      subst hl3
      go_wp2
      go_roundw
      case rel => exact ⟨j + 1, out3, a3, c3, by omega, by go_num, rfl, HL3, hd3, HV3, row3, HB3⟩
      case measure => simp [intOf]; omega
    · obtain rfl : j = pw := by omega
      obtain ⟨wo, hwo⟩ : ∃ x, x = wr := ⟨_, rfl⟩
      subst hwo
      have hsz := HB.out.size
      go_wp2
      go_loopw [10, 11] (fun v y ws => ∃ k : Nat, k ≤ 2 * j ∧ y = .int .i64 (k : Int) ∧ Hid (ws.ownsRow wo.heap.size 3 1 v k ((nI (List.replicate k 0)).map (Value.int .i64))) ∧ Hid (Below wo.heap.size wo ws)) (fun _ y _ => 2 * j - (intOf y).toNat)
      case atStart => exact ⟨0, Nat.zero_le _, rfl, World.ownsRow_nil _ _ _ _, Below.refl _ _⟩
      case round =>
        obtain ⟨k, hk, rfl, HO, HB2⟩ := hrel
        have hsz2 := HB2.out.size
        have hown := HO.out
        by_cases hlt2 : k < 2 * j
        · have HS : Hid (List.replicate (k + 1) 0 = List.replicate k 0 ++ [(0 : Nat)]) := List.replicate_succ'
          go_wp2_with (at_builtin; refine wpList_append_own _ rfl _ _ 22 rfl _ 3 i0 (.int .i64 0) 1 8 Try.underlying22 hi0 hz0 hz1 hz2 rfl (by decide) _ _ _ rfl (hown.alloc _) ⟨_, 0, none⟩ 1 1 [.int .i64 0] rfl rfl (cell_one_new _ _ _) (by intro u hu; simp at hu; subst hu; rfl) (by unfold maxLen; omega) (by omega) (by simp; omega) ?_)
          intro v' w3 hown' hgrow _
          have R := rel_push hsz2 hown HB2.out hown' hgrow
          rw [show (0 : Int) = ((0 : Nat) : Int) from rfl, ← nI_snoc, ← HS.out] at R
          clear hown' hgrow
          go_wp2
          go_roundw
          case rel => exact ⟨k + 1, by omega, by go_num, R.1, R.2⟩
          case measure => simp [intOf]; omega
        · obtain rfl : k = 2 * j := by omega
          have HW : Hid (vL (List.replicate (2 * j) 0 ++ [p]) = p * 65536 ^ (2 * j)) := by
            show _ = _
            rw [vL_snoc, vL_zero, List.length_replicate]
            omega
          have HDW : Hid (Dig (List.replicate (2 * j) 0 ++ [p])) := by
            intro z hz
            simp only [List.mem_append, List.mem_replicate, List.mem_singleton] at hz
            rcases hz with ⟨_, rfl⟩ | rfl
            · decide
            · exact hp
          go_wp2_with (at_builtin; refine wpList_append_own _ rfl _ _ 22 rfl _ 3 i0 (.int .i64 0) 1 8 Try.underlying22 hi0 hz0 hz1 hz2 rfl (by decide) _ _ _ rfl (hown.alloc _) ⟨_, 0, none⟩ 1 1 [.int .i64 (p : Int)] rfl rfl (cell_one_new _ _ _) (by intro u hu; simp at hu; subst hu; rfl) (by unfold maxLen; omega) (by omega) (by simp; omega) ?_)
          intro v' w3 hown' hgrow _
          have R := rel_push hsz2 hown HB2.out hown' hgrow
          rw [← nI_snoc] at R
          clear hown' hgrow
          obtain ⟨a5, c5, rfl, row5⟩ := row_of_owns R.1
          have row6 := HR.out.below R.2 (Nat.le_refl _)
          generalize List.replicate (2 * j) 0 ++ [p] = want at *
          go_wp2_with fail
          refine (greater13_any out want _ _ _ _ _ _ _ row6 row5 HD.out HDW.out (by omega) (by omega)).mono ?_
          rintro e w4 ⟨rfl, rfl⟩
          go_wp2
          go_ret
          exact ⟨ret_bool (by rw [HW.out, HV.out]), q2.trans ((HB.out.trans (R.2.mono hsz)).mono (by rw [← hw2]; simp; omega))⟩
theorem half_bit (k : Nat) (hk : k < 39) : 274877906944 / 2 ^ k = 2 ^ (38 - k) := by
  have : 274877906944 = 2 ^ (38 - k) * 2 ^ k := by rw [← Nat.pow_add, show 38 - k + k = 38 from by omega]
  rw [this, Nat.mul_div_cancel _ (Nat.two_pow_pos k)]
set_option maxHeartbeats 1600000 in
theorem frac13_any (p pw : Nat) (w : World) (hpw : pw ≤ 3) (hp : p < 65536) : Calls Try.prog 30 #[.int .i64 (p : Int), .int .i64 (pw : Int)] w fun e w' =>
    e = .returned (.int .i64 ((frTo pw (p * 65536 ^ (2 * pw)) 39 % 4294967296 : Nat) : Int)) ∧ Below w.heap.size w w' := by
  go_enter Try.func30, Try.ntmps30
  go_wp2
  go_loopw [5, 6] (fun r y wr => ∃ k : Nat, k ≤ 39 ∧ y = .int .i64 ((274877906944 / 2 ^ k : Nat) : Int) ∧ r = .int .i64 ((frTo pw (p * 65536 ^ (2 * pw)) k : Nat) : Int) ∧ Hid (Below w.heap.size w wr)) (fun _ y _ => (intOf y).toNat)
  case atStart => exact ⟨0, by omega, by simp, rfl, Below.refl _ _⟩
  case round =>
    obtain ⟨k, hk, rfl, rfl, HB⟩ := hrel
    have hsz := HB.out.size
    have hlt := frTo_lt pw (p * 65536 ^ (2 * pw)) k hk
    have HH : Hid (274877906944 / 2 ^ (k + 1) = 274877906944 / 2 ^ k / 2) := (div_step2 _ k).symm
    have hle : 274877906944 / 2 ^ k ≤ 274877906944 := Nat.div_le_self _ _
    by_cases h39 : k < 39
    · have hb := half_bit k h39
      have h1 : 0 < 2 ^ (38 - k) := Nat.two_pow_pos _
      have h2 : 2 ^ (39 - k) = 2 * 2 ^ (38 - k) := by rw [show 39 - k = (38 - k) + 1 from by omega, Nat.pow_succ]; omega
      have HF : Hid (frTo pw (p * 65536 ^ (2 * pw)) (k + 1) = bif Nat.blt (p * 65536 ^ (2 * pw)) ((frTo pw (p * 65536 ^ (2 * pw)) k + 2 ^ (38 - k)) ^ pw) then frTo pw (p * 65536 ^ (2 * pw)) k else frTo pw (p * 65536 ^ (2 * pw)) k + 2 ^ (38 - k)) := rfl
      have hab := fun x (hx : x < 549755813888) w => above13_any x pw p w hx hpw hp
      rw [hb] at HH hle ⊢
      generalize p * 65536 ^ (2 * pw) = lim at *
      generalize frTo pw lim k = r at *
      generalize 2 ^ (38 - k) = bit at *
      have hrb : r + bit < 549755813888 := by omega
      have eadd : (r : Int) + (bit : Int) = ((r + bit : Nat) : Int) := by omega
      generalize r + bit = rb at *
      go_wp2_with fail
      refine (hab rb hrb _).mono ?_
      rintro e w2 ⟨rfl, q2⟩
      have HB2 : Hid (Below w.heap.size w w2) := HB.out.trans (q2.mono hsz)
      have hblt : Nat.blt lim (rb ^ pw) = decide (lim < rb ^ pw) := by rw [Bool.eq_iff_iff, Nat.blt_eq, decide_eq_true_iff]
      rw [hblt] at HF
      generalize decide (lim < rb ^ pw) = tf at *
      clear hblt hab
      cases tf
      all_goals
        go_wp2
        go_roundw
        case rel => exact ⟨k + 1, by omega, by rw [HH.out]; go_num, by rw [HF.out]; rfl, HB2⟩
        case measure => simp [intOf]; omega
    · obtain rfl : k = 39 := by omega
      have hz : 274877906944 / 2 ^ 39 = 0 := by decide
      rw [hz] at HH hle ⊢
      generalize hr0 : frTo pw (p * 65536 ^ (2 * pw)) 39 = r at *
      have HR : Hid (frTo pw (p * 65536 ^ (2 * pw)) 39 = r) := hr0
      clear hr0
      go_wp2
      go_ret
      exact ⟨ret_int (by first | omega | (rw [HR.out] <;> omega)), HB.out⟩
end Go.Proofs.Ytoijeefmddopbaa
