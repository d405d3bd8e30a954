/-
  A walk of layer 7's law ChipFlips. (Written by tools/gen/chip_law_flips.py.)
-/
import Derived.Test.YtjagnpljhedfjabChipMore
namespace Go.Proofs.Ytjagnpljhedfjab
open Go.RowKit Go.Maps
set_option linter.unusedVariables false
set_option maxRecDepth 8192

theorem flip_ff : ∀ k : Fin 8, flipB 255 k.val ≠ 255 := by decide
/-- A page of ff, one bit of which is read wrongly. -/
theorem read_flip {L : Nat} {bt : Nat} (hb : bt < 8 * L) {k : Nat} (hk : k < L) : (readZ L (List.replicate L 255) (flipW L [(bt : Int), (bt : Int)] 2))[k]?.getD 0 = if k = bt / 8 then flipB 255 (bt % 8) else 255 := by
  have e : turnI (List.replicate L 255) [(bt : Int)] = readZ L (List.replicate L 255) (flipW L [(bt : Int), (bt : Int)] 2) := by
    refine readZ_of (isB_rep (by decide) L) (by simp) (fun x hx => ?_) (by simp) (fun x => ?_)
    · unfold flipW at hx; exact (of_decide_eq_true hx).2
    · unfold flipW
      rw [decide_eq_true_iff]
      simp
      omega
  rw [← e]
  have e1 : turnI (List.replicate L 255) [(bt : Int)] = turn1 (List.replicate L 255) bt := by simp [turnI]
  rw [e1]
  unfold turn1
  have hlt : bt / 8 < L := by omega
  have e2 : (List.replicate L (255 : Int))[bt / 8]?.getD 0 = 255 := by simp [hlt]
  rw [e2]
  by_cases h : k = bt / 8
  · rw [if_pos h, h]; simp [hlt]
  · rw [if_neg h, List.getElem?_set_ne (by omega)]; simp [hk]
set_option maxHeartbeats 6400000 in
set_option maxRecDepth 100000 in
theorem walk_chipFlips (b p s n f : Int) (x y o bit : Int) (w : World) (hx : I64 x) (hy : I64 y) (ho : I64 o) (hbt : I64 bit) :
    Calls Try.prog 3 #[.agg #[.int .i64 b, .int .i64 p, .int .i64 s, .int .i64 n, .int .i64 f], .int .i64 x, .int .i64 y, .int .i64 o, .int .i64 bit] w fun e w' => e = .returned (.bool true) ∧ Below w.heap.size w w' := by
  cases hsm : small7 b p s n f
  · go_enter Try.func3, Try.ntmps3
    go_wp2_with fail
    refine (small7_any b p s n f _).mono ?_
    rintro e w1 ⟨rfl, q1⟩
    rw [hsm]
    go_wp2_with fail
    go_ret
    exact ⟨rfl, btrans (below_one _ _) q1⟩
  cases hmy : mayG b p s n f
  · go_enter Try.func3, Try.ntmps3
    go_wp2_with fail
    refine (small7_any b p s n f _).mono ?_
    rintro e w1 ⟨rfl, q1⟩
    rw [hsm]
    obtain ⟨_, c0, c1, c2, c3, c4⟩ := (gbox_new w 23 b p s n f).below q1 (Nat.le_refl _)
    go_wp2_with fail
    refine (refMay_any b p s n f _).mono ?_
    rintro e w2 ⟨rfl, q2⟩
    rw [hmy]
    go_wp2_with fail
    go_ret
    exact ⟨rfl, btrans (btrans (below_one _ _) q1) q2⟩
  obtain ⟨G, rfl, rfl, rfl, rfl, rfl, hb16, hp8⟩ := geo_ex hsm hmy
  by_cases hcd : (0 ≤ x ∧ x < G.b) ∧ (0 ≤ y ∧ y < G.p) ∧ (0 ≤ o ∧ o < G.p) ∧ ¬ y = o ∧ 0 ≤ bit
  case neg =>
    go_enter Try.func3, Try.ntmps3
    go_wp2_with fail
    refine (small7_any G.b G.p G.s G.n G.f _).mono ?_
    rintro e w1 ⟨rfl, q1⟩
    rw [hsm]
    obtain ⟨_, c0, c1, c2, c3, c4⟩ := (gbox_new w 23 G.b G.p G.s G.n G.f).below q1 (Nat.le_refl _)
    go_wp2_with fail
    refine (refMay_any G.b G.p G.s G.n G.f _).mono ?_
    rintro e w2 ⟨rfl, q2⟩
    rw [hmy]
    clear c0 c1 c2 c3 c4
    obtain ⟨_, c0, c1, c2, c3, c4⟩ := ((gbox_new w 23 G.b G.p G.s G.n G.f).below q1 (Nat.le_refl _)).below q2 (Nat.le_refl _)
    go_wp2_with fail
    all_goals first | (exfalso; omega) | (go_ret; exact ⟨rfl, btrans (btrans (below_one _ _) q1) q2⟩)
  have HSM : Hid (small7 G.b G.p G.s G.n G.f = true) := hsm
  have HMY : Hid (mayG G.b G.p G.s G.n G.f = true) := hmy
  clear hsm hmy
  have hL := G.ok.L2
  have hLm : G.L ≤ maxLen := by unfold maxLen; omega
  obtain ⟨⟨hx0, hx1⟩, ⟨hy0, hy1⟩, ⟨ho0, ho1⟩, hyo, hb0⟩ := hcd
  obtain ⟨bt, rfl⟩ := Int.eq_ofNat_of_zero_le hb0
  have n1 : decide (x < 0) = false := by rw [decide_eq_false_iff_not]; omega
  have n2 : decide (G.b ≤ x) = false := by rw [decide_eq_false_iff_not]; omega
  have n3 : decide (y < 0) = false := by rw [decide_eq_false_iff_not]; omega
  have n4 : decide (G.p ≤ y) = false := by rw [decide_eq_false_iff_not]; omega
  have n5 : decide (o < 0) = false := by rw [decide_eq_false_iff_not]; omega
  have n6 : decide (G.p ≤ o) = false := by rw [decide_eq_false_iff_not]; omega
  have n7 : (y == o) = false := by simp [hyo]
  go_enter Try.func3, Try.ntmps3
  go_wp2_with fail
  have q0 := below_one w (.cells #[.int .i64 G.b, .int .i64 G.p, .int .i64 G.s, .int .i64 G.n, .int .i64 G.f] 23)
  have gb := gbox_new w 23 G.b G.p G.s G.n G.f
  have HQ0 : Hid (Below w.heap.size w (w.alloc (.cells #[.int .i64 G.b, .int .i64 G.p, .int .i64 G.s, .int .i64 G.n, .int .i64 G.f] 23))) := q0
  clear q0
  generalize hg0 : w.heap.size = g at gb ⊢
  have HG0 : Hid (w.heap.size = g) := hg0
  clear hg0
  generalize w.alloc (.cells #[.int .i64 G.b, .int .i64 G.p, .int .i64 G.s, .int .i64 G.n, .int .i64 G.f] 23) = W at *
  refine (small7_any _ _ _ _ _ _).mono ?_
  rintro e w1 ⟨rfl, q1⟩
  rw [HSM.out]
  have gb1 := gb.below q1 (Nat.le_refl _)
  obtain ⟨_, c0, c1, c2, c3, c4⟩ := gb1
  go_wp2_with fail
  clear c0 c1 c2 c3 c4
  refine (refMay_any _ _ _ _ _ _).mono ?_
  rintro e w2 ⟨rfl, q2⟩
  rw [HMY.out]
  replace q2 := btrans q1 q2
  clear q1
  have gb1 := gb.below q2 (Nat.le_refl _)
  obtain ⟨_, c0, c1, c2, c3, c4⟩ := gb1
  go_wp2_with fail
  clear c0 c1 c2 c3 c4
  refine (refRaw_any G.ok _).mono ?_
  rintro e w2b ⟨rfl, q2b⟩
  replace q2 := btrans q2 q2b
  clear q2b
  have gb1 := gb.below q2 (Nat.le_refl _)
  obtain ⟨_, c0, c1, c2, c3, c4⟩ := gb1
  by_cases hb8 : (bt : Int) < 8 * (G.L : Int)
  case neg =>
    have hb9 : 8 * (G.L : Int) ≤ (bt : Int) := by omega
    go_wp2_with fail
    go_ret
    exact ⟨rfl, btrans HQ0.out q2⟩
  have n9 : decide (8 * (G.L : Int) ≤ (bt : Int)) = false := by rw [decide_eq_false_iff_not]; omega
  go_wp2_with fail
  clear c0 c1 c2 c3 c4
  refine (chipNew_nil G _).mono ?_
  rintro e w3 ⟨c, rfl, hnew⟩
  obtain ⟨B, F, rfl, h3⟩ := newChip_here q2 hnew
  clear q2 hnew
  have gb3 := gb.below h3.bel (Nat.le_refl _)
  obtain ⟨_, c0, c1, c2, c3, c4⟩ := gb3
  go_wp2_with fail
  clear c0 c1 c2 c3 c4
  have HFIT : Hid (hasP G x y = true) := hasP_of ⟨hx0, hx1⟩ ⟨hy0, hy1⟩
  have HHAS : Hid (∀ k : Int, 0 ≤ k ∧ k < G.p → hasP G x k = true) := fun k h => hasP_of ⟨hx0, hx1⟩ h
  have HP : Hid (G.p = ((G.p.toNat : Nat) : Int)) := G.pn
  have HE1 : Hid (readZ G.L ((CS.fresh G.L [] ([] : List Int).length).pg x y) ((CS.fresh G.L [] ([] : List Int).length).wr x y) = List.replicate G.L 255) := readZ_none G.L _
  refine (chipRead_yes x y hx hy _ h3.chip rfl (HHAS.out y ⟨hy0, hy1⟩)).mono ?_
  rw [HE1.out]
  rintro e w4 ⟨qa, hqa, rfl, ra, b4⟩
  have h4 := h3.below b4
  have o4 := h3.off ra hqa
  clear h3 ra hqa b4 HE1
  have hrow := row_new .i64 w4 3 w4.heap.size rfl [(bt : Int), (bt : Int)] 2 rfl (by unfold maxLen; omega) #[.int .i64 (bt : Int), .int .i64 (bt : Int)] rfl
  have b5 := below_one w4 (.cells #[.int .i64 (bt : Int), .int .i64 (bt : Int)] 3)
  have h5 := h4.below b5
  have o5 := o4.below b5
  have p5 := h4.off hrow (Nat.le_refl _)
  clear h4 o4 hrow b5
  go_wp2_with fail
  generalize w4.alloc (.cells #[.int .i64 (bt : Int), .int .i64 (bt : Int)] 3) = w5 at *
  generalize w4.heap.size = gp at *
  have hfl := chipFlip_any x y hx hy _ _ _ _ w5 h5.chip p5.row p5.off (fun v hv => by
    have e : v = (bt : Int) := by simpa using hv
    rw [e]; exact hbt.wf) (by omega) (by omega)
  obtain ⟨S1, hS1⟩ : ∃ S1, S1 = (CS.fresh G.L [] ([] : List Int).length).doFlip G x y [(bt : Int), (bt : Int)] := ⟨_, rfl⟩
  rw [← hS1] at hfl
  have hS1' : S1 = (CS.fresh G.L [] ([] : List Int).length).flipped x y (flipW G.L [(bt : Int), (bt : Int)] 2) := by rw [hS1]; unfold CS.doFlip; rw [if_pos HFIT.out]; rfl
  have HU1 : Hid (S1.up = true) := by show _ = _; rw [hS1']; rfl
  have HA1 : Hid (S1.ah = 0) := by show _ = _; rw [hS1']; rfl
  have HW1 : Hid (S1.wk x = false) := by show _ = _; rw [hS1']; rfl
  have HR1 : Hid (readZ G.L (S1.pg x y) (S1.wr x y) = readZ G.L (List.replicate G.L 255) (flipW G.L [(bt : Int), (bt : Int)] 2)) := by
    show _ = _
    rw [hS1']
    unfold CS.flipped CS.fresh
    simp
  have HR2 : Hid (readZ G.L (S1.pg x o) (S1.wr x o) = List.replicate G.L 255) := by
    show _ = _
    rw [hS1']
    unfold CS.flipped CS.fresh
    simp [show ¬ o = y from fun e => hyo e.symm]
    exact readZ_none G.L _
  have HA : Hid (∀ k, k < G.L → (readZ G.L (List.replicate G.L 255) (flipW G.L [(bt : Int), (bt : Int)] 2))[k]?.getD 0 = if k = bt / 8 then flipB 255 (bt % 8) else 255) := fun k hk => read_flip (by omega) hk
  clear hS1 hS1'
  generalize readZ G.L (List.replicate G.L 255) (flipW G.L [(bt : Int), (bt : Int)] 2) = A at *
  refine hfl.mono ?_
  rintro e w6 ⟨⟨rf, rfl⟩, d6⟩
  obtain ⟨F6, h6, of6⟩ := h5.does d6
  have o6 := of6 _ _ _ _ _ o5
  clear hfl d6 of6 h5 o5 p5
  go_wp2_with fail
  refine (chipRead_yes x y hx hy _ h6.chip HU1.out (HHAS.out y ⟨hy0, hy1⟩)).mono ?_
  rw [HR1.out]
  rintro e w7 ⟨qb, hqb, rfl, rb, b7⟩
  have h7 := h6.below b7
  have o7 := o6.below b7
  have u7 := h6.off rb hqb
  clear h6 o6 rb hqb b7
  go_wp2_with fail
  refine (chipRead_yes x y hx hy _ h7.chip HU1.out (HHAS.out y ⟨hy0, hy1⟩)).mono ?_
  rw [HR1.out]
  rintro e w8 ⟨qc, hqc, rfl, rc, b8⟩
  have h8 := h7.below b8
  have o8 := o7.below b8
  have u8 := u7.below b8
  have v8 := h7.off rc hqc
  clear h7 o7 u7 rc hqc b8
  go_wp2_with fail
  refine (chipRead_yes x o hx ho _ h8.chip HU1.out (HHAS.out o ⟨ho0, ho1⟩)).mono ?_
  rw [HR2.out]
  rintro e w9 ⟨qd, hqd, rfl, rd, b9⟩
  have h9 := h8.below b9
  have o9 := o8.below b9
  have u9 := u8.below b9
  have v9 := v8.below b9
  clear h8 o8 u8 v8 hqd b9
  have k1 := conv_row (P := Try.prog) Try.underlying30 Try.underlying5 Try.underlying9 u9.row
  have k2 := conv_row (P := Try.prog) Try.underlying30 Try.underlying5 Try.underlying9 v9.row
  have k3 := conv_row (P := Try.prog) Try.underlying30 Try.underlying5 Try.underlying9 rd
  have k4 := conv_row (P := Try.prog) Try.underlying30 Try.underlying5 Try.underlying9 o9.row
  have HCA : Hid (∀ k, k < G.L → w9.cell? ⟨qb, k, none⟩ = some (.int .u8 (A[k]?.getD 0))) := fun k hk => by
    obtain ⟨_, _, e0, _, hcell⟩ := u9.row.hcell (by omega)
    cases e0
    have := hcell k hk
    rwa [Nat.zero_add] at this
  have HCW : Hid (∀ k, k < G.L → w9.cell? ⟨qa, k, none⟩ = some (.int .u8 255)) := fun k hk => by
    obtain ⟨_, _, e0, _, hcell⟩ := o9.row.hcell (by omega)
    cases e0
    have := hcell k hk
    rw [Nat.zero_add] at this
    simpa [hk] using this
  have HH9 : Hid (Here W G B F6 2 S1 w9 ∧ Off F6 .u8 w9 (some ⟨qa, 0, none⟩) G.L G.L (List.replicate G.L 255)) := ⟨⟨h9.chip.mono (by omega), h9.low, h9.bel⟩, o9⟩
  clear h9 o9 u9 v9 rd
  go_wp2_with fail
  clear k1 k2 k3 k4
  go_loopw [21] (fun i wx => ∃ n : Nat, n ≤ G.L ∧ i = .int .i64 (n : Int) ∧ Hid (Below w9.heap.size w9 wx)) (fun i _ => G.L - (RowKit.intOf i).toNat)
  case atStart => exact ⟨0, Nat.zero_le _, rfl, Below.refl _ _⟩
  case round =>
    obtain ⟨n, hn, rfl, hbw⟩ := hrel
    by_cases hlt : n < G.L
    · have hlt' : (n : Int) < (G.L : Int) := by omega
      have ca := HCA.out n hlt
      have cw := HCW.out n hlt
      rw [HA.out n hlt] at ca
      have ca' := (hbw.out.cell (p := ⟨qb, n, none⟩) (World.block_lt_of_cell? _ _ ca)).trans ca
      have cw' := (hbw.out.cell (p := ⟨qa, n, none⟩) (World.block_lt_of_cell? _ _ cw)).trans cw
      clear ca cw
      have hdv : Int.tdiv (bt : Int) 8 = ((bt / 8 : Nat) : Int) := by rw [Int.tdiv_eq_ediv_of_nonneg (by omega)]; omega
      have hdv2 : (bt : Int) / 8 = ((bt / 8 : Nat) : Int) := by omega
      have hd8 : bt / 8 ≤ 2000 := by omega
      have hw8 : IntKind.i64.wrap ((bt / 8 : Nat) : Int) = ((bt / 8 : Nat) : Int) := by rw [IntKind.wrap_i64]; omega
      have hff := flip_ff ⟨bt % 8, by omega⟩
      simp only at hff
      by_cases hk : n = bt / 8
      · rw [if_pos hk] at ca'
        have e1 : (flipB 255 (bt % 8) != 255) = true := by simp [hff]
        have e2 : ((n : Int) == ((bt / 8 : Nat) : Int)) = true := by simp [hk]
        have HBW : Hid (∀ j, Below w9.heap.size w9 (wr.drewN j)) := fun j => btrans hbw.out (below_drews wr j)
        clear hk hff hbw
        generalize flipB 255 (bt % 8) = fv at *
        generalize bt / 8 = b8 at *
        go_wp2_with fail
        go_quiet (fail)
        go_wp2_with fail
        go_roundw
        case rel => exact ⟨n + 1, by omega, by go_num, HBW.out _⟩
        case measure => simp [RowKit.intOf]; omega
      · rw [if_neg hk] at ca'
        have e2 : ((n : Int) == ((bt / 8 : Nat) : Int)) = false := by simp; omega
        have HBW : Hid (∀ j, Below w9.heap.size w9 (wr.drewN j)) := fun j => btrans hbw.out (below_drews wr j)
        clear hk hff hbw
        generalize bt / 8 = b8 at *
        go_wp2_with fail
        go_quiet (fail)
        go_wp2_with fail
        go_roundw
        case rel => exact ⟨n + 1, by omega, by go_num, HBW.out _⟩
        case measure => simp [RowKit.intOf]; omega
    · have e : n = G.L := by omega
      have hge : ¬ (n : Int) < (G.L : Int) := by omega
      have h10 := HH9.out.1.below hbw.out
      have o10 := HH9.out.2.below hbw.out
      have hp4 : S1.doErase G x = (0, (S1.counted.wipe G.L x G.p.toNat).next0 x) := erase_ok HU1.out ⟨hx0, hx1⟩ (by rw [HA1.out]; decide) HW1.out
      rw [counted_zero HA1.out] at hp4
      have her := chipErase_any x hx wr h10.chip
      rw [hp4] at her
      go_wp2_with fail
      refine her.mono ?_
      rintro e w11 ⟨rfl, d11⟩
      obtain ⟨F11, h11, of11⟩ := h10.does d11
      have o11 := of11 _ _ _ _ _ o10
      obtain ⟨S4, hS4⟩ : ∃ S4, S4 = (S1.wipe G.L x G.p.toNat).next0 x := ⟨_, rfl⟩
      replace h11 := h11.same hS4.symm
      have HU4 : Hid (S4.up = true) := by show _ = _; rw [hS4]; exact HU1.out
      have HR4 : Hid (readZ G.L (S4.pg x y) (S4.wr x y) = List.replicate G.L 255) := by
        show _ = _
        rw [hS4]
        show readZ G.L ((S1.wipe G.L x G.p.toNat).pg x y) ((S1.wipe G.L x G.p.toNat).wr x y) = _
        rw [wipe_pg _ _ _ _ ⟨hy0, by rw [← HP.out]; exact hy1⟩, wipe_wr _ _ _ _ ⟨hy0, by rw [← HP.out]; exact hy1⟩, readZ_none]
      clear her hp4 d11 of11 h10 o10 hS4
      go_wp2_with fail
      refine (chipRead_yes x y hx hy _ h11.chip HU4.out (HHAS.out y ⟨hy0, hy1⟩)).mono ?_
      rw [HR4.out]
      rintro e w12 ⟨qe, hqe, rfl, re, b12⟩
      have h12 := h11.below b12
      have o12 := o11.below b12
      clear h11 o11 b12 hqe
      go_wp2_with fail
      refine (awake7_any _).mono ?_
      rintro e w13 ⟨rfl, q13⟩
      have h13 := h12.below q13
      have k1 := conv_row (P := Try.prog) Try.underlying30 Try.underlying5 Try.underlying9 (re.below q13 (Nat.le_refl _))
      have k2 := conv_row (P := Try.prog) Try.underlying30 Try.underlying5 Try.underlying9 (o12.below q13).row
      have HB13 : Hid (Below w.heap.size w w13) := btrans HQ0.out h13.bel
      clear h12 o12 re q13 h13
      go_wp2_with fail
      go_ret
      exact ⟨rfl, HB13.out⟩
end Go.Proofs.Ytjagnpljhedfjab
