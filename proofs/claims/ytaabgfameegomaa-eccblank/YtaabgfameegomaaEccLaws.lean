/-
  The walk of layer 6's law EccTorn, out of the code's contracts: it returns true; nothing old turns. (Written by tools/gen/ecc_law_torn.py.)
-/
import Derived.Test.YtaabgfameegomaaEccAwake
namespace Go.Proofs.Ytaabgfameegomaa
open Go.RowKit
set_option linter.unusedVariables false
set_option maxRecDepth 8192

/-- A page of ff is blank. -/
theorem ones_255 (n k : Nat) (hk : k ≤ 8 * n) (z : List Int) (h : ∀ i, i < n → z[i]?.getD 0 = 255) : onesTo z k = k := by
  induction k with
  | zero => rfl
  | succ k ih =>
    rw [onesTo_succ, ih (by omega)]
    have : bitI z k = 1 := by
      unfold bitI
      rw [h (k / 8) (by omega)]
      rcases (show k % 8 = 0 ∨ k % 8 = 1 ∨ k % 8 = 2 ∨ k % 8 = 3 ∨ k % 8 = 4 ∨ k % 8 = 5 ∨ k % 8 = 6 ∨ k % 8 = 7 by omega) with e | e | e | e | e | e | e | e <;> rw [e] <;> decide
    rw [this]
    omega
theorem blank_255 {f W s : Nat} {z : List Int} (h : ∀ i, i < s * W → z[i]?.getD 0 = 255) : blankTo f z W s = true := by
  rw [blankTo_iff]
  intro i hi
  have hle := at_le (W := W) hi
  unfold nouN
  rw [ones_255 W (8 * W) (Nat.le_refl _) _ fun q hq => by rw [part_get _ _ _ _ hq]; exact h _ (by omega)]
  omega
/-- What a beginning over ff comes to. -/
theorem torn_facts {z : List Int} {L k : Nat} (hl : z.length = L) (hk : k < L) (hz : IsB z) :
    (splice z k (List.replicate (L - k) 255)).length = L ∧ IsB (splice z k (List.replicate (L - k) 255)) ∧ (splice z k (List.replicate (L - k) 255))[L - 1]?.getD 0 = 255 ∧ (k = 0 → ∀ i, i < L → (splice z k (List.replicate (L - k) 255))[i]?.getD 0 = 255) := by
  have h1 : k + (List.replicate (L - k) (255 : Int)).length ≤ z.length := by simp; omega
  have g : ∀ i, k ≤ i → i < L → (splice z k (List.replicate (L - k) 255))[i]?.getD 0 = 255 := fun i h2 h3 => by
    rw [splice_get h1, if_pos (by simp; omega), List.getElem?_replicate, if_pos (by omega)]
    rfl
  exact ⟨by rw [length_splice h1, hl], isB_splice hz (isB_255 _), g _ (by omega) (by omega), fun e i hi => g i (by omega) hi⟩

set_option maxHeartbeats 6400000 in
set_option maxRecDepth 100000 in
theorem walk_eccTorn (hB : HBitsC) (hE : HEncC) (hD : HDecC) (b p s n f : Int) (a : Option Addr) (len cap : Nat) (x : List Int) (k : Int) (w : World) (rx : Row .u8 w a len cap x) (bx : IsB x) (k1 : -9223372036854775808 ≤ k) (k2 : k ≤ 9223372036854775807) :
    Calls Try.prog 6 #[.agg #[.int .i64 b, .int .i64 p, .int .i64 s, .int .i64 n, .int .i64 f], .slice a len cap, .int .i64 k] w fun e w' => e = .returned (.bool true) ∧ Below w.heap.size w w' := by
  cases hsm : small6 b p s n f
  · go_enter Try.func6, Try.ntmps6
    go_wp2_with fail
    refine (small6_any b p s n f _).mono ?_
    rintro e w1 ⟨rfl, q1⟩
    rw [hsm]
    go_wp2_with fail
    go_ret
    exact ⟨rfl, btrans (below_one _ _) q1⟩
  cases hmy : mayG b p s n f
  · go_enter Try.func6, Try.ntmps6
    go_wp2_with fail
    refine (small6_any b p s n f _).mono ?_
    rintro e w1 ⟨rfl, q1⟩
    rw [hsm]
    have gb := (gbox_new w 23 b p s n f).below q1 (Nat.le_refl _)
    obtain ⟨_, c0, c1, c2, c3, c4⟩ := gb
    go_wp2_with fail
    refine (refMay_any b p s n f _).mono ?_
    rintro e w2 ⟨rfl, q2⟩
    rw [hmy]
    go_wp2_with fail
    go_ret
    exact ⟨rfl, btrans (btrans (below_one _ _) q1) q2⟩
  obtain ⟨s, n, f, R, m, W, L, rfl, rfl, rfl, G⟩ := gok_ex hmy (small6_may hsm hmy)
  have HSM : Hid (small6 b p s n f = true) := hsm
  have HMY : Hid (mayG b p s n f = true) := hmy
  clear hsm hmy
  have hmaxl : len ≤ maxLen := Nat.le_trans rx.hcap rx.hmax
  have hroom := refRoom_any b p f s n R G.hR G.hs.2 (by have := G.hn; omega)
  by_cases hl : len = R
  case neg =>
    have hq : (((len : Nat) : Int) != (R : Int)) = true := by simp; omega
    clear G
    go_enter Try.func6, Try.ntmps6
    go_wp2_with fail
    refine (small6_any b p s n f _).mono ?_
    rintro e w1 ⟨rfl, q1⟩
    rw [HSM.out]
    have gb := (gbox_new w 23 b p s n f).below q1 (Nat.le_refl _)
    have gb1 := gb
    obtain ⟨_, c0, c1, c2, c3, c4⟩ := gb1
    go_wp2_with fail
    refine (refMay_any b p s n f _).mono ?_
    rintro e w2 ⟨rfl, q2⟩
    rw [HMY.out]
    clear c0 c1 c2 c3 c4
    have gb1 := gb.below q2 (Nat.le_refl _)
    obtain ⟨_, c0, c1, c2, c3, c4⟩ := gb1
    go_wp2_with fail
    refine (hroom _).mono ?_
    rintro e w3 ⟨rfl, q3⟩
    go_wp2_with fail
    go_ret
    exact ⟨rfl, btrans (btrans (btrans (below_one _ _) q1) q2) q3⟩
  subst hl
  have hraw := refRaw_any G
  have HL : Hid (s * W + 1 = L) := G.hL
  have hL2 := G.L2
  have hpk := fun (w : World) (r : Row .u8 w a len cap x) => eccPack_yes hB hE G a cap x w r bx
  go_enter Try.func6, Try.ntmps6
  go_wp2_with fail
  have gb := gbox_new w 23 b p s n f
  have q1 := below_one w (.cells #[.int .i64 b, .int .i64 p, .int .i64 s, .int .i64 n, .int .i64 f] 23)
  generalize w.alloc (.cells #[.int .i64 b, .int .i64 p, .int .i64 s, .int .i64 n, .int .i64 f] 23) = w0 at *
  generalize hgg : w.heap.size = g at gb
  replace rx := rx.below q1 (Nat.le_refl _)
  refine (small6_any b p s n f _).mono ?_
  rintro e w1 ⟨rfl, qq⟩
  replace gb := gb.below qq (Nat.le_refl _)
  replace rx := rx.below qq (Nat.le_refl _)
  replace q1 := btrans q1 qq
  clear qq
  rw [HSM.out]
  have gb_ := gb
  obtain ⟨_, c0, c1, c2, c3, c4⟩ := gb_
  go_wp2_with fail
  clear c0 c1 c2 c3 c4
  refine (refMay_any b p s n f _).mono ?_
  rintro e w2 ⟨rfl, qq⟩
  replace gb := gb.below qq (Nat.le_refl _)
  replace rx := rx.below qq (Nat.le_refl _)
  replace q1 := btrans q1 qq
  clear qq
  rw [HMY.out]
  have gb_ := gb
  obtain ⟨_, c0, c1, c2, c3, c4⟩ := gb_
  go_wp2_with fail
  clear c0 c1 c2 c3 c4
  refine (hroom _).mono ?_
  rintro e w3 ⟨rfl, qq⟩
  replace gb := gb.below qq (Nat.le_refl _)
  replace rx := rx.below qq (Nat.le_refl _)
  replace q1 := btrans q1 qq
  clear qq
  clear HSM HMY hroom
  have gb_ := gb
  obtain ⟨_, c0, c1, c2, c3, c4⟩ := gb_
  go_wp2_with fail
  clear c0 c1 c2 c3 c4
  refine (hpk _ rx).mono ?_
  rintro e w4 ⟨z, gr, hz, hgr, rfl, own, qb⟩
  clear hpk
  have HPK : Hid (IsPack s n f m W x z) := hz
  have HZL : Hid (z.length = L) := by show _ = _; rw [hz.len, HL.out]
  have hzb := hz.isB
  clear hz
  have gb_ := gb.below qb (Nat.le_refl _)
  obtain ⟨_, c0, c1, c2, c3, c4⟩ := gb_
  go_wp2_with fail
  clear c0 c1 c2 c3 c4
  refine (hraw _).mono ?_
  rintro e w5 ⟨rfl, qq⟩
  replace own := owns_below own qq
  replace qb := qb.trans (qq.mono qb.size)
  clear qq
  clear hraw
  by_cases hk : 0 ≤ k ∧ k < L
  case neg =>
    have hk2 : (k < 0) ∨ ((L : Int) ≤ k) := by omega
    rcases hk2 with h | h
    · have hlt : k < 0 := h
      go_wp2_with fail
      refine (awake6_any hB hE hD _).mono ?_
      rintro e w6 ⟨rfl, qq⟩
      go_wp2_with fail
      go_ret
      exact ⟨rfl, btrans (btrans q1 qb) qq⟩
    · have hge : (L : Int) ≤ k := h
      have hnl : ¬ k < 0 := by omega
      go_wp2_with fail
      refine (awake6_any hB hE hD _).mono ?_
      rintro e w6 ⟨rfl, qq⟩
      go_wp2_with fail
      go_ret
      exact ⟨rfl, btrans (btrans q1 qb) qq⟩
  obtain ⟨k, rfl⟩ := Int.eq_ofNat_of_zero_le hk.1
  have hkL : k < L := by omega
  clear hk k1 k2
  have hk0 : ¬ (k : Int) < 0 := by omega
  have hk3 : ¬ (L : Int) ≤ (k : Int) := by omega
  have HTF : Hid _ := torn_facts HZL.out hkL hzb
  have HF0 : Hid (splice z k (List.replicate (k - k) 255) = z) := fill_start z k (by rw [HZL.out]; omega)
  have HFS : Hid (∀ i, k ≤ i → i < L → (splice z k (List.replicate (i - k) 255)).set i 255 = splice z k (List.replicate (i + 1 - k) 255)) := fun i h1 h2 => fill_step h1 (by rw [HZL.out]; exact h2)
  go_wp2_with fail
  go_loopw [9] (fun y wr => ∃ i : Nat, k ≤ i ∧ i ≤ L ∧ y = .int .i64 i ∧ wr.ownsRow w3.heap.size 5 1 (.slice (some ⟨gr, 0, none⟩) L L) L ((splice z k (List.replicate (i - k) 255)).map (Value.int .u8)) ∧ Below w3.heap.size w3 wr) (fun y _ => L - (intOf y).toNat)
  case atStart => exact ⟨k, Nat.le_refl _, by omega, rfl, by rw [HF0.out]; exact own, qb⟩
  case round =>
    clear own qb HF0
    obtain ⟨i, hi1, hi2, rfl, own, qb⟩ := hrel
    by_cases hlt : i < L
    case pos =>
      have hcl := owned_cell own i hlt
      have hfz := own.frozenAt i
      have R := owned_set (q := i) (x := 255) hgr own qb
      rw [HFS.out i hi1 hlt] at R
      have HR : Hid _ := R
      clear R own qb HTF
      generalize (splice z k (List.replicate (i - k) 255))[i]?.getD 0 = zi at hcl
      have u5 : (i : Int) < (L : Int) := by omega
      go_wp2_with fail
      go_roundw
      case rel => exact ⟨i + 1, by omega, by omega, by go_num, HR.out.1, HR.out.2⟩
      case measure => simp [intOf]; omega
    have e : i = L := by omega
    subst e
    clear HFS hlt hi1 hi2
    obtain ⟨h1, h2, h3, h4⟩ := HTF.out
    have HZ1 : Hid (k = 0 → ∀ j, j < i → (splice z k (List.replicate (i - k) 255))[j]?.getD 0 = 255) := h4
    clear h1 h4 HTF
    generalize splice z k (List.replicate (i - k) 255) = zz at *
    have rz := isB_of_row own
    obtain ⟨er, HER⟩ : ∃ er : Int, Hid (er = if zz[i - 1]?.getD 0 = 255 ∧ blankTo f zz W s = true then 61 else 60) := ⟨_, rfl⟩
    have hun := fun (w1 : World) (r : Row .u8 w1 (some ⟨gr, 0, none⟩) i i zz) => eccUnpack_mark hB G _ _ zz w1 r h2 (by rw [h3]; decide) er HER
    have HE : Hid (er = 60 ∧ k ≠ 0 ∨ er = 61) := by
      rcases Bool.eq_false_or_eq_true (blankTo f zz W s) with hb | hb
      · exact .inr (by rw [HER.out, h3, hb]; simp)
      · refine .inl ⟨by rw [HER.out, hb]; simp, fun e => ?_⟩
        rw [blank_255 (fun j hj => HZ1.out e j (by have := HL.out; omega))] at hb
        cases hb
    clear h3 HER HZ1
    have gb_ := gb.below qb (Nat.le_refl _)
    obtain ⟨_, c0, c1, c2, c3, c4⟩ := gb_
    go_wp2_with fail
    clear c0 c1 c2 c3 c4
    refine (hun _ rz).mono ?_
    rintro e w6 ⟨rfl, qq⟩
    replace own := owns_below own qq
    replace qb := qb.trans (qq.mono qb.size)
    clear qq
    replace rz := isB_of_row own
    have hrd := eccRead_err b p s n f _ _ _ w6 er (by rcases HE.out with h | h <;> omega) (fun w1 q => hun w1 (rz.below q (Nat.le_refl _)))
    have gb_ := gb.below qb (Nat.le_refl _)
    obtain ⟨_, c0, c1, c2, c3, c4⟩ := gb_
    go_wp2_with fail
    clear c0 c1 c2 c3 c4
    refine hrd.mono ?_
    rintro e w7 ⟨rfl, qq⟩
    replace own := owns_below own qq
    replace qb := qb.trans (qq.mono qb.size)
    clear qq
    clear hrd hun rz own
    have gbx := gb
    rcases HE.out with ⟨he, hk9⟩ | he
    · subst he
      have hkp : (0 : Int) < (k : Int) := by omega
      have hkl : (k : Int) < (i : Int) := by omega
      go_wp2_with fail
      refine (awake6_any hB hE hD _).mono ?_
      rintro e w8 ⟨rfl, qq⟩
      go_wp2_with fail
      go_ret
      exact ⟨rfl, btrans (btrans q1 qb) qq⟩
    · subst he
      by_cases hk9 : k = 0
      case pos =>
        subst hk9
        go_wp2_with fail
        refine (awake6_any hB hE hD _).mono ?_
        rintro e w8 ⟨rfl, qq⟩
        go_wp2_with fail
        go_ret
        exact ⟨rfl, btrans (btrans q1 qb) qq⟩
      have hkp : (0 : Int) < (k : Int) := by omega
      have hkl : (k : Int) < (i : Int) := by omega
      go_wp2_with fail
      refine (awake6_any hB hE hD _).mono ?_
      rintro e w8 ⟨rfl, qq⟩
      go_wp2_with fail
      go_ret
      exact ⟨rfl, btrans (btrans q1 qb) qq⟩

end Go.Proofs.Ytaabgfameegomaa
