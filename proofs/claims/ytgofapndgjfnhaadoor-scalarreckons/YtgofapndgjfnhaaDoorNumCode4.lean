/-
  The code of layer 15 (nums), as it landed: guess, lessen.
-/
import Derived.Test.YtgofapndgjfnhaaDoorNumCode2
import Derived.Test.YtgofapndgjfnhaaDoorNumCode3
namespace Go.Proofs.YtgofapndgjfnhaaDoor.N
open Go.RowKit
set_option linter.unusedVariables false
set_option maxRecDepth 8192

theorem top_ge {z : List Nat} (nz : Nrm z) {lm : Nat} (hl : z.length = lm) (h7 : 7 < lm) : 281474976710656 ≤ vL z / 256 ^ (lm - 7) := by
  have h1 := nz.ge (lm - 1) (by omega)
  rw [Nat.le_div_iff_mul_le (pow_pos256 _)]
  have e : 281474976710656 * 256 ^ (lm - 7) = 256 ^ (lm - 1) := by
    rw [show (281474976710656 : Nat) = 256 ^ 6 from rfl, ← Nat.pow_add]
    congr 1
    omega
  rw [e]
  exact h1
set_option maxHeartbeats 1600000 in
theorem guess_any (P : Nat) (z : List Nat) (g off cap lm cm : Nat) (ma : Option Addr) (w : World) (nz : Nrm z) (hz0 : 0 < lm) (rp : Row .u8 w (some ⟨g, off, none⟩) (lm + 1) cap (nI (digL P (lm + 1)))) (rm : Row .u8 w ma lm cm (nI z)) (hP : P < 256 * vL z) (hl : lm ≤ 1000000) :
    Calls Tryd.prog 78 #[.slice (some ⟨g, off, none⟩) (lm + 1) cap, .slice ma lm cm] w fun e w' => ∃ q : Nat, e = .returned (.int .i64 (q : Int)) ∧ q * vL z ≤ P ∧ P < (q + 2) * vL z ∧ q ≤ 255 ∧ w = w' := by
  have HLm : Hid (z.length = lm) := by have := rm.hlen; rwa [nI_length] at this
  obtain ⟨bM, oM, rfl, hbM, hcM⟩ := rm.hcell hz0
  clear hcM
  have hzl : vL z < 256 ^ lm := by rw [← HLm.out]; exact nz.dig.vL_lt
  have hM1 : 0 < vL z := by
    have h1 := nz.ge (lm - 1) (by rw [HLm.out]; omega)
    exact Nat.lt_of_lt_of_le (pow_pos256 _) h1
  have hPl : P < 256 ^ (lm + 1) := by
    rw [Nat.pow_succ, Nat.mul_comm]
    exact Nat.lt_of_lt_of_le hP (Nat.mul_le_mul_left _ (Nat.le_of_lt hzl))
  have hcp := rp.hcap
  have hcp2 := rp.hmax
  have hcm := rm.hcap
  have hcm2 := rm.hmax
  by_cases h7 : lm ≤ 7
  · have HVP : Hid (vL (digL P (lm + 1)) = P) := vL_digL_lt hPl
    have cM := fun w rm => word_any z (some ⟨bM, oM, none⟩) lm cm w nz.dig rm (by omega)
    have cP := fun w rp => word_any (digL P (lm + 1)) (some ⟨g, off, none⟩) (lm + 1) cap w (digL_dig _ _) rp (by omega)
    rw [HVP.out] at cP
    have HQ : Hid (P / vL z * vL z ≤ P ∧ P < (P / vL z + 2) * vL z ∧ P / vL z ≤ 255) := guess_exact hP rfl
    have hP8 : P < 18446744073709551616 := Nat.lt_of_lt_of_le hPl (Nat.pow_le_pow_right (n := 256) (j := 8) (by decide) (by omega))
    have hM8 : vL z < 18446744073709551616 := Nat.lt_of_lt_of_le hzl (Nat.pow_le_pow_right (n := 256) (j := 8) (by decide) (by omega))
    have hq8 : P / vL z ≤ 255 := HQ.out.2.2
    clear hPl hzl hP
    generalize vL z = M at *
    have e1 : (P : Int) / (M : Int) = ((P / M : Nat) : Int) := (Int.natCast_ediv P M).symm
    have e1t : (P : Int).tdiv (M : Int) = ((P / M : Nat) : Int) := by rw [Int.tdiv_eq_ediv_of_nonneg (by omega)]; exact e1
    have hM0 : (M : Int) ≠ 0 := by omega
    have hmx : (lm : Int) - 7 ≤ 0 := by omega
    generalize P / M = q at *
    go_enter Tryd.func78, Tryd.ntmps78
    go_wp2_with fail
    refine (cM _ rm).mono ?_
    rintro e w' ⟨rfl, rfl⟩
    go_wp2_with fail
    refine (cP _ rp).mono ?_
    rintro e w' ⟨rfl, rfl⟩
    go_wp2
    go_ret
    exact ⟨q, rfl, HQ.out.1, HQ.out.2.1, HQ.out.2.2, rfl⟩
  · obtain ⟨low, hlow⟩ : ∃ low, lm = low + 7 := ⟨lm - 7, by omega⟩
    have hto : ((lm : Int) - 7).toNat = low := by omega
    have hlo : (lm : Int) - 7 = (low : Int) := by omega
    have hlp : 0 < low := by omega
    have hll : low ≤ lm := by omega
    have hll1 : low ≤ lm + 1 := by omega
    have hcml : low ≤ cm := by omega
    have hcpl : low ≤ cap := by omega
    have HTG : Hid (281474976710656 ≤ vL z / 256 ^ low) := by
      have := top_ge nz HLm.out (by omega)
      rwa [show lm - 7 = low from by omega] at this
    have HVP : Hid (vL ((digL P (lm + 1)).drop low) = P / 256 ^ low) := by show _ = _; rw [vL_drop (digL_dig _ _), vL_digL_lt hPl]
    have HVM : Hid (vL (z.drop low) = vL z / 256 ^ low) := vL_drop nz.dig low
    have rp2 := row_drop rp low (by omega)
    have rm2 := row_drop rm low (by omega)
    rw [nI_drop] at rp2 rm2
    have e7 : lm - low = 7 := by omega
    have e8 : lm + 1 - low = 8 := by omega
    rw [e8] at rp2
    rw [e7] at rm2
    have cM := fun w rm => word_any (z.drop low) (some ⟨bM, oM + low, none⟩) 7 (cm - low) w (nz.dig.drop low) rm (by omega)
    have cP := fun w rp => word_any ((digL P (lm + 1)).drop low) (some ⟨g, off + low, none⟩) 8 (cap - low) w ((digL_dig _ _).drop low) rp (by omega)
    rw [HVP.out] at cP
    rw [HVM.out] at cM
    have HQ : Hid (P / 256 ^ low / (vL z / 256 ^ low + 1) * vL z ≤ P ∧ P < (P / 256 ^ low / (vL z / 256 ^ low + 1) + 2) * vL z ∧ P / 256 ^ low / (vL z / 256 ^ low + 1) ≤ 255) := guess_ok (pow_pos256 _) HTG.out hP rfl
    have hP8 : P / 256 ^ low < 18446744073709551616 := by
      rw [Nat.div_lt_iff_lt_mul (pow_pos256 _), show (18446744073709551616 : Nat) = 256 ^ 8 from rfl, ← Nat.pow_add, show 8 + low = lm + 1 from by omega]
      exact hPl
    have hM8 : vL z / 256 ^ low < 72057594037927936 := by
      rw [Nat.div_lt_iff_lt_mul (pow_pos256 _), show (72057594037927936 : Nat) = 256 ^ 7 from rfl, ← Nat.pow_add, show 7 + low = lm from by omega]
      exact hzl
    have hq8 := HQ.out.2.2
    clear hPl hzl hP hM1 HTG HVP HVM hlow
    generalize vL z / 256 ^ low = B at *
    generalize P / 256 ^ low = A at *
    have e1 : (A : Int) / ((B : Int) + 1) = ((A / (B + 1) : Nat) : Int) := by rw [show ((B : Int) + 1) = ((B + 1 : Nat) : Int) from by omega]; exact (Int.natCast_ediv A (B + 1)).symm
    have e1t : (A : Int).tdiv ((B : Int) + 1) = ((A / (B + 1) : Nat) : Int) := by rw [Int.tdiv_eq_ediv_of_nonneg (by omega)]; exact e1
    have hM0 : (B : Int) + 1 ≠ 0 := by omega
    generalize A / (B + 1) = q at *
    go_enter Tryd.func78, Tryd.ntmps78
    go_wp2_with fail
    refine (cM _ rm2).mono ?_
    rintro e w' ⟨rfl, rfl⟩
    go_wp2_with fail
    refine (cP _ rp2).mono ?_
    rintro e w' ⟨rfl, rfl⟩
    go_wp2
    go_ret
    exact ⟨q, rfl, HQ.out.1, HQ.out.2.1, HQ.out.2.2, rfl⟩
theorem lessen_plain {R M D q : Nat} (hD : 0 < D) (h1 : q * M ≤ R / D) (h2 : R / D < (q + 2) * M) : q * (M * D) ≤ R ∧ R < (q + 2) * (M * D) := by
  have e1 := Nat.mul_le_mul_right D h1
  have e2 := Nat.div_mul_le_self R D
  have e3 := Nat.mul_le_mul_right D (show R / D + 1 ≤ (q + 2) * M from h2)
  have e4 := Nat.lt_mul_div_succ R hD
  rw [Nat.mul_comm D] at e4
  rw [Nat.mul_assoc] at e1 e3
  omega
theorem cmp_ge {a b : Nat} : 0 ≤ cmpN a b ↔ b ≤ a := by
  unfold cmpN
  split
  · omega
  · split <;> omega
set_option maxHeartbeats 1600000 in
theorem lessen_any (R n off cap lm cm : Nat) (z : List Nat) (ma : Option Addr) (T : TypeId) (g : Nat) (w0 w : World) (hA : Arr w g T .u8 (nI (digL R n))) (rm : Row .u8 w0 ma lm cm (nI z)) (hq : Below g w0 w) (hg : w0.heap.size ≤ g)
    (nz : Nrm z) (hz0 : 0 < lm) (hR : R < vL z * 256 ^ (off + 1)) (hln : off + (lm + 1) ≤ n) (hn : n ≤ 1000000) (hc : lm + 1 ≤ cap) (hcm : cap ≤ maxLen) :
    Calls Tryd.prog 61 #[.slice (some ⟨g, off, none⟩) (lm + 1) cap, .slice ma lm cm] w fun e w' => e = .returned (.tuple #[]) ∧ Arr w' g T .u8 (nI (digL (R % (vL z * 256 ^ off)) n)) ∧ Below g w w' := by
  have HLm : Hid (z.length = lm) := by have := rm.hlen; rwa [nI_length] at this
  have win : ∀ (v : Nat) (w : World), Arr w g T .u8 (nI (digL v n)) → Row .u8 w (some ⟨g, off, none⟩) (lm + 1) cap (nI (digL (v / 256 ^ off) (lm + 1))) := fun v w h => by
    have := h.win off (lm + 1) cap (by rw [nI_length, digL_length]; exact hln) hc hcm
    rwa [nI_drop, nI_take, digL_part hln] at this
  have hzl : vL z < 256 ^ lm := by rw [← HLm.out]; exact nz.dig.vL_lt
  have hRl : R < 256 ^ (off + (lm + 1)) := by
    rw [show off + (lm + 1) = lm + (off + 1) from by omega, Nat.pow_add]
    exact Nat.lt_of_lt_of_le hR (Nat.mul_le_mul_right _ (Nat.le_of_lt hzl))
  have hP : R / 256 ^ off < 256 * vL z := by
    rw [Nat.div_lt_iff_lt_mul (pow_pos256 _), Nat.mul_comm 256, Nat.mul_assoc, Nat.mul_comm 256, ← Nat.pow_succ]
    exact hR
  have HPL : Hid (∀ v, v ≤ R → vL (digL (v / 256 ^ off) (lm + 1)) = v / 256 ^ off) := fun v hv => by
    apply vL_digL_lt
    rw [Nat.div_lt_iff_lt_mul (pow_pos256 _), ← Nat.pow_add, Nat.add_comm (lm + 1)]
    omega
  have cG := guess_any (R / 256 ^ off) z g off cap lm cm ma w nz hz0 (win R w hA) (rm.below hq hg) hP (by omega)
  go_enter Tryd.func61, Tryd.ntmps61
  go_wp2_with fail
  refine cG.mono ?_
  rintro e w' ⟨q, rfl, hq1, hq2, hq3, rfl⟩
  clear cG hP
  obtain ⟨f1, f2⟩ := lessen_plain (pow_pos256 off) hq1 hq2
  clear hq1 hq2
  obtain ⟨V, hV⟩ : ∃ V, V = R - q * (vL z * 256 ^ off) := ⟨_, rfl⟩
  have hV1 : V < 256 ^ (off + (lm + 1)) := by omega
  have hVI : (V : Int) = (R : Int) + (-(q : Int)) * ((256 ^ off * vL z : Nat) : Int) := by
    rw [Int.neg_mul, Nat.mul_comm (256 ^ off), ← Int.natCast_mul]
    omega
  have cC := change_any R V n off (lm + 1) cap lm cm (-(q : Int)) z ma T g w0 w hA rm hq hg nz.dig (by omega) (by omega) hVI hRl hV1 (by omega) hln hn
  go_wp2_with fail
  refine cC.mono ?_
  rintro e w1 ⟨rfl, A1, q1⟩
  clear cC hA hVI hRl
  have q01 := hq.trans q1
  have cK := cmp_any (digL (V / 256 ^ off) (lm + 1)) z (some ⟨g, off, none⟩) ma (lm + 1) cap lm cm w1 (digL_dig _ _) nz.dig (win V w1 A1) (rm.below q01 hg) (by omega) (by omega)
  rw [HPL.out V (by omega)] at cK
  have hDV : vL z ≤ V / 256 ^ off ↔ vL z * 256 ^ off ≤ V := Nat.le_div_iff_mul_le (pow_pos256 _)
  have hcg : 0 ≤ cmpN (V / 256 ^ off) (vL z) ↔ vL z * 256 ^ off ≤ V := cmp_ge.trans hDV
  clear hDV
  have hcl : -1 ≤ cmpN (V / 256 ^ off) (vL z) ∧ cmpN (V / 256 ^ off) (vL z) ≤ 1 := by
    unfold cmpN; split
    · decide
    · split <;> decide
  generalize cmpN (V / 256 ^ off) (vL z) = cc at *
  have hA1 := A1.lt
  go_wp2_with fail
  refine cK.mono ?_
  rintro e w2 ⟨rfl, q2⟩
  clear cK
  have A2 := A1.below q2 hA1
  replace q2 := q1.trans (q2.mono (Nat.le_of_lt hA1))
  have q02 := hq.trans q2
  clear A1 q1 q01
  by_cases hge : vL z * 256 ^ off ≤ V
  · have hc0 : 0 ≤ cc := hcg.2 hge
    have HRE : Hid (R % (vL z * 256 ^ off) = V - vL z * 256 ^ off) := by
      show _ = _
      have e : (q + 1) * (vL z * 256 ^ off) = q * (vL z * 256 ^ off) + vL z * 256 ^ off := by rw [Nat.add_mul, Nat.one_mul]
      have e' : (q + 2) * (vL z * 256 ^ off) = q * (vL z * 256 ^ off) + 2 * (vL z * 256 ^ off) := by rw [Nat.add_mul]
      have := rest_of (R := R) (M := vL z) (D := 256 ^ off) (q := q + 1) (by omega) (by omega)
      omega
    have hVI : ((V - vL z * 256 ^ off : Nat) : Int) = (V : Int) + (-1) * ((256 ^ off * vL z : Nat) : Int) := by
      rw [Nat.mul_comm (256 ^ off)]
      omega
    have cC := change_any V (V - vL z * 256 ^ off) n off (lm + 1) cap lm cm (-1) z ma T g w0 w2 A2 rm q02 hg nz.dig (by decide) (by decide) hVI hV1 (by omega) (by omega) hln hn
    rw [← HRE.out] at cC
    clear hge hcg hVI f1 f2 hV hV1
    go_wp2_with fail
    refine cC.mono ?_
    rintro e w3 ⟨rfl, A3, q3⟩
    go_wp2_with fail
    go_end0
    exact ⟨rfl, A3, q2.trans q3⟩
  · have hc0 : ¬ 0 ≤ cc := fun h => hge (hcg.1 h)
    have HRE : Hid (V = R % (vL z * 256 ^ off)) := by
      show _ = _
      have := rest_of (R := R) (M := vL z) (D := 256 ^ off) (q := q) f1 (by omega)
      omega
    rw [HRE.out] at A2
    clear hge hcg f1 f2 hV hV1
    go_wp2_with fail
    go_end0
    exact ⟨rfl, A2, q2⟩
end Go.Proofs.YtgofapndgjfnhaaDoor.N
