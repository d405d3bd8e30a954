/-
  A walk of layer 7's law ChipCuts. (Written by tools/gen/chip_law_cuts.py.)
-/
import Derived.Test.YtjagnpljhedfjaaChipMore
namespace Go.Proofs.Ytjagnpljhedfjaa
open Go.RowKit Go.Maps
set_option linter.unusedVariables false
set_option maxRecDepth 8192

/-- What is read of a page whose programming was cut. -/
theorem padF_get {L : Nat} {v : Int} {kk k : Nat} (hk : k < L) (hkk : kk ≤ L) : (padF L (List.replicate kk v))[k]?.getD 0 = if k < kk then v else 255 := by
  unfold padF
  by_cases h : k < kk
  · rw [if_pos h, List.getElem?_append_left (by simpa using h)]; simp [h]
  · rw [if_neg h, List.getElem?_append_right (by simpa using h)]
    simp
    rw [List.getElem?_eq_getElem (by simp; omega)]
    simp
set_option maxHeartbeats 3200000 in
set_option maxRecDepth 100000 in
theorem walk_chipCuts (b p s n f : Int) (x fill keep : Int) (w : World) (hx : I64 x) (hfl : 0 ≤ fill ∧ fill ≤ 255) (hkp : I64 keep) :
    Calls Try.prog 7 #[.agg #[.int .i64 b, .int .i64 p, .int .i64 s, .int .i64 n, .int .i64 f], .int .i64 x, .int .u8 fill, .int .i64 keep] w fun e w' => e = .returned (.bool true) ∧ Below w.heap.size w w' := by
  cases hsm : small7 b p s n f
  · go_enter Try.func7, Try.ntmps7
    go_wp2_with fail
    refine (small7_any b p s n f _).mono ?_
    rintro e w1 ⟨rfl, q1⟩
    rw [hsm]
    go_wp2_with fail
    go_ret
    exact ⟨rfl, btrans (below_one _ _) q1⟩
  cases hmy : mayG b p s n f
  · go_enter Try.func7, Try.ntmps7
    go_wp2_with fail
    refine (small7_any b p s n f _).mono ?_
    rintro e w1 ⟨rfl, q1⟩
    rw [hsm]
    obtain ⟨_, c0, c1, c2, c3, c4⟩ := (gbox_new w 23 b p s n f).below q1 (Nat.le_refl _)
    go_wp2_with fail
    refine (refMay_any b p s n f _).mono ?_
    rintro e w2 ⟨rfl, q2⟩
    rw [hmy]
    go_wp2_with fail
    go_ret
    exact ⟨rfl, btrans (btrans (below_one _ _) q1) q2⟩
  obtain ⟨G, rfl, rfl, rfl, rfl, rfl, hb16, hp8⟩ := geo_ex hsm hmy
  by_cases hcd : 0 ≤ x ∧ x < G.b
  case neg =>
    go_enter Try.func7, Try.ntmps7
    go_wp2_with fail
    refine (small7_any G.b G.p G.s G.n G.f _).mono ?_
    rintro e w1 ⟨rfl, q1⟩
    rw [hsm]
    obtain ⟨_, c0, c1, c2, c3, c4⟩ := (gbox_new w 23 G.b G.p G.s G.n G.f).below q1 (Nat.le_refl _)
    go_wp2_with fail
    refine (refMay_any G.b G.p G.s G.n G.f _).mono ?_
    rintro e w2 ⟨rfl, q2⟩
    rw [hmy]
    clear c0 c1 c2 c3 c4
    obtain ⟨_, c0, c1, c2, c3, c4⟩ := ((gbox_new w 23 G.b G.p G.s G.n G.f).below q1 (Nat.le_refl _)).below q2 (Nat.le_refl _)
    go_wp2_with fail
    all_goals first | (exfalso; omega) | (go_ret; exact ⟨rfl, btrans (btrans (below_one _ _) q1) q2⟩)
  have HSM : Hid (small7 G.b G.p G.s G.n G.f = true) := hsm
  have HMY : Hid (mayG G.b G.p G.s G.n G.f = true) := hmy
  clear hsm hmy
  have hL := G.ok.L2
  have hLm : G.L ≤ maxLen := by unfold maxLen; omega
  go_enter Try.func7, Try.ntmps7
  go_wp2_with fail
  have q0 := below_one w (.cells #[.int .i64 G.b, .int .i64 G.p, .int .i64 G.s, .int .i64 G.n, .int .i64 G.f] 23)
  have gb := gbox_new w 23 G.b G.p G.s G.n G.f
  have HQ0 : Hid (Below w.heap.size w (w.alloc (.cells #[.int .i64 G.b, .int .i64 G.p, .int .i64 G.s, .int .i64 G.n, .int .i64 G.f] 23))) := q0
  clear q0
  generalize hg0 : w.heap.size = g at gb ⊢
  have HG0 : Hid (w.heap.size = g) := hg0
  clear hg0
  generalize w.alloc (.cells #[.int .i64 G.b, .int .i64 G.p, .int .i64 G.s, .int .i64 G.n, .int .i64 G.f] 23) = W at *
  refine (small7_any _ _ _ _ _ _).mono ?_
  rintro e w1 ⟨rfl, q1⟩
  rw [HSM.out]
  have gb1 := gb.below q1 (Nat.le_refl _)
  obtain ⟨_, c0, c1, c2, c3, c4⟩ := gb1
  go_wp2_with fail
  clear c0 c1 c2 c3 c4
  refine (refMay_any _ _ _ _ _ _).mono ?_
  rintro e w2 ⟨rfl, q2⟩
  rw [HMY.out]
  replace q2 := btrans q1 q2
  clear q1
  have gb1 := gb.below q2 (Nat.le_refl _)
  obtain ⟨_, c0, c1, c2, c3, c4⟩ := gb1
  obtain ⟨hx0, hx1⟩ := hcd
  go_wp2_with fail
  clear c0 c1 c2 c3 c4
  refine (chipNew_nil G _).mono ?_
  rintro e w3 ⟨c, rfl, hnew⟩
  obtain ⟨B, F, rfl, h3⟩ := newChip_here q2 hnew
  clear q2 hnew
  have gb3 := gb.below h3.bel (Nat.le_refl _)
  obtain ⟨_, c0, c1, c2, c3, c4⟩ := gb3
  go_wp2_with fail
  clear c0 c1 c2 c3 c4
  refine (refRaw_any G.ok _).mono ?_
  rintro e w4 ⟨rfl, q4⟩
  have h4 := h3.below q4
  clear h3 q4
  obtain ⟨w5, hmk, hg5, q5⟩ := makeB G.L (by omega) w4
  have z5 : Blk w5 w4.heap.size (fillZ 0 0 G.L) := by unfold Blk; rw [fillZ_zero]; exact hg5
  have h5 := h4.below q5
  have HWR4 : W.heap.size ≤ w4.heap.size := h4.bel.size
  have hrF : ¬ F w4.heap.size := fun hf => by have := h4.chip.fresh _ hf; omega
  clear hg5 q5 h4
  have HWR : Hid (W.heap.size ≤ w4.heap.size) := HWR4
  clear HWR4
  generalize w4.heap.size = r at *
  go_wp2_with fail
  clear hmk
  go_loopw [12] (fun i wr => ∃ n : Nat, n ≤ G.L ∧ i = .int .i64 (n : Int) ∧ Hid (Blk wr r (fillZ fill n G.L)) ∧ Hid (Turned (fun k => k = r) w5 wr)) (fun i _ => G.L - (RowKit.intOf i).toNat)
  case atStart => exact ⟨0, Nat.zero_le _, rfl, by show Blk _ _ _; rw [fillZ_zero, ← fillZ_zero 0]; exact z5, Turned.refl _ _⟩
  case round =>
    obtain ⟨n, hn, rfl, hz, ht⟩ := hrel
    by_cases hlt : n < G.L
    · have hlt' : (n : Int) < (G.L : Int) := by omega
      have cn := hz.out.cell (i := n) (by rw [fillZ_len fill hn]; exact hlt)
      have fn := hz.out.frozen n
      have HZ2 : Hid (Blk (wr.setCell ⟨r, n, none⟩ (.int .u8 fill)) r (fillZ fill (n + 1) G.L)) := by
        show Blk _ _ _
        rw [← fillZ_set fill hlt]; exact hz.out.set n fill
      have HT2 : Hid (Turned (fun k => k = r) w5 (wr.setCell ⟨r, n, none⟩ (.int .u8 fill))) := ht.out.setCell (p := ⟨r, n, none⟩) (.inl rfl) _
      clear hz ht
      generalize (fillZ fill n G.L)[n]?.getD 0 = old at *
      go_wp2_with fail
      go_roundw
      case rel => exact ⟨n + 1, by omega, by go_num, HZ2, HT2⟩
      case measure => simp [RowKit.intOf]; omega
    · have e : n = G.L := by omega
      subst e
      have hz6 := hz.out
      rw [fillZ_all] at hz6
      have hzl : (List.replicate G.L fill).length = G.L := by simp
      have HZL : Hid ((List.replicate G.L fill).length = G.L) := hzl
      have t6 : Turned F w5 wr → True := fun _ => trivial
      have h6 : Here W G B F 0 (CS.fresh G.L [] ([] : List Int).length) wr := ⟨h5.chip.turned ht.out (fun k hk e => hrF (e ▸ hk)), h5.low, h5.bel.trans (ht.out.below (Nat.le_trans h5.bel.size (Nat.le_refl _)) (fun k e => by
        have h1 := z5.lt
        have h2 : W.heap.size ≤ r := HWR.out
        omega))⟩
      have r6 : Off F .u8 wr (some ⟨r, 0, none⟩) G.L G.L (List.replicate G.L fill) := hz6.off hzl hLm hrF
      have HIB : Hid (IsB (List.replicate G.L fill)) := isB_rep hfl G.L
      have HFIT : Hid (∀ len, len = G.L → fitsP G x 0 len = true) := fun len hl => fitsP_of ⟨hx0, hx1⟩ ⟨by omega, by have := G.ok.hp; omega⟩ hl
      have HHAS : Hid (hasP G x 0 = true) := hasP_of ⟨hx0, hx1⟩ ⟨by omega, by have := G.ok.hp; omega⟩
      have HFS : Hid (CS.fresh G.L [] ([] : List Int).length = CS.fresh G.L [] 0) := rfl
      clear hz ht hz6 h5 z5 t6 hzl
      generalize hZ : List.replicate G.L fill = Z at *
      have HZZ : Hid (List.replicate G.L fill = Z) := hZ
      clear hZ
      go_wp2_with fail
      refine (chipArm_any 1 keep (i64_small (by decide)) hkp _ h6.chip).mono ?_
      rintro e w7 ⟨⟨r7, rfl⟩, hc7, t7⟩
      obtain ⟨h7, o7⟩ := h6.turned hc7 t7
      have r7 := o7 _ _ _ _ _ r6
      clear hc7 t7 o7 h6 r6
      go_wp2_with fail
      have hpr := chipProgram_any x 0 hx (i64_small (by decide)) _ _ _ _ w7 h7.chip r7.row r7.off HIB.out (by omega)
      obtain ⟨S1, hS1⟩ : ∃ S1 : CS, S1 = { CS.fresh G.L [] ([] : List Int).length with ah := max 1 0, ke := keep } := ⟨_, rfl⟩
      rw [← hS1] at hpr
      replace h7 := h7.same hS1.symm
      have hp1 : S1.doProgram G x 0 Z = (70, S1.counted.lay x 0 (padF G.L (Z.take (keptN S1.ke Z.length)))) := program_cut (by rw [hS1]; rfl) (HFIT.out _ HZL.out) (by rw [hS1]; rfl) (by rw [hS1]; rfl)
      rw [hp1] at hpr
      obtain ⟨S2, hS2⟩ : ∃ S2, S2 = S1.counted.lay x 0 (padF G.L (Z.take (keptN S1.ke Z.length))) := ⟨_, rfl⟩
      rw [← hS2] at hpr
      have hc1 : S1.counted = { S1 with ah := 0, up := false } := counted_one (by rw [hS1]; rfl)
      have HU2 : Hid (S2.up = false) := by show _ = _; rw [hS2, hc1]; rfl
      have HN2 : Hid (S2.nx x = 1) := by show _ = _; rw [hS2, lay_nx, hc1, hS1]; rfl
      have HA2 : Hid (S2.ah = 0) := by show _ = _; rw [hS2, hc1]; rfl
      have HW2 : Hid (S2.wk x = false) := by show _ = _; rw [hS2, hc1, hS1]; rfl
      have HR2 : Hid (S2.wr x 0 = fun _ => false) := by show _ = _; rw [hS2, hc1, hS1]; rfl
      have HP2 : Hid (S2.pg x 0 = padF G.L (List.replicate (keptN keep G.L) fill)) := by
        show _ = _
        rw [hS2, lay_pg, HZL.out, ← HZZ.out, List.take_replicate, hS1]
        congr 2
        show min (keptN keep G.L) G.L = keptN keep G.L
        unfold keptN; omega
      clear hp1 hc1 hS2 hS1 HFS
      refine hpr.mono ?_
      rintro e w8 ⟨rfl, d8⟩
      obtain ⟨F8, h8, o8⟩ := h7.does d8
      have r8 := o8 _ _ _ _ _ r7
      clear hpr d8 o8 h7 r7 S1
      go_wp2_with fail
      refine (chipRead_down x 0 _ h8.chip.cell HU2.out).mono ?_
      rintro e w9 ⟨rfl, rfl⟩
      go_wp2_with fail
      refine (chipUp_any _ h8.chip.cell).mono ?_
      rw [HU2.out]
      rintro e w9 ⟨rfl, rfl⟩
      go_wp2_with fail
      refine (chipOn_any _ h8.chip).mono ?_
      rintro e w9 ⟨⟨r9, rfl⟩, hc9, t9⟩
      obtain ⟨h9, o9⟩ := h8.turned hc9 t9
      have r9 := o9 _ _ _ _ _ r8
      clear hc9 t9 o9 h8 r8
      obtain ⟨S3, hS3⟩ : ∃ S3 : CS, S3 = { S2 with up := true } := ⟨_, rfl⟩
      replace h9 := h9.same hS3.symm
      have HU3 : Hid (S3.up = true) := by show _ = _; rw [hS3]
      have HN3 : Hid (S3.nx x = 1) := by show _ = _; rw [hS3]; exact HN2.out
      have HA3 : Hid (S3.ah = 0) := by show _ = _; rw [hS3]; exact HA2.out
      have HW3 : Hid (S3.wk x = false) := by show _ = _; rw [hS3]; exact HW2.out
      have HR3 : Hid (readZ G.L (S3.pg x 0) (S3.wr x 0) = padF G.L (List.replicate (keptN keep G.L) fill)) := by
        show _ = _
        rw [hS3]
        show readZ G.L (S2.pg x 0) (S2.wr x 0) = _
        rw [HR2.out, readZ_none, HP2.out]
      clear hS3 HU2 HN2 HA2 HW2 HR2 HP2 S2
      go_wp2_with fail
      refine (chipRead_yes x 0 hx (i64_small (by decide)) _ h9.chip HU3.out HHAS.out).mono ?_
      rw [HR3.out]
      rintro e w10 ⟨q, hq, rfl, rr, q10⟩
      have h10 := h9.below q10
      have r10 := r9.below q10
      have HCELL : Hid (∀ k, k < G.L → w10.cell? ⟨q, k, none⟩ = some (.int .u8 (if k < keptN keep G.L then fill else 255))) := fun k hk => by
        obtain ⟨_, _, e0, _, hcell⟩ := rr.hcell (by omega)
        cases e0
        have := hcell k hk
        rw [padF_get hk (by unfold keptN; omega), Nat.zero_add] at this
        exact this
      clear q10 h9 r9 rr hq
      go_wp2_with fail
      go_loopw [18] (fun i wx => wx = w10 ∧ ∃ n : Nat, n ≤ G.L ∧ i = .int .i64 (n : Int)) (fun i _ => G.L - (RowKit.intOf i).toNat)
      case atStart => exact ⟨rfl, 0, Nat.zero_le _, rfl⟩
      case round =>
        obtain ⟨rfl, n, hn, rfl⟩ := hrel
        by_cases hlt : n < G.L
        · have hlt' : (n : Int) < (G.L : Int) := by omega
          have hc := HCELL.out n hlt
          by_cases hk : (n : Int) < keep
          · rw [if_pos (by unfold keptN; omega)] at hc
            have hk2 : ¬ keep ≤ (n : Int) := by omega
            go_wp2_with fail
            all_goals first | (exfalso; omega) | (go_roundw; (case rel => first | exact ⟨rfl, n + 1, by omega, by go_num⟩ | exact ⟨trivial, n + 1, by omega, by go_num⟩); (case measure => simp [RowKit.intOf]; omega))
          · rw [if_neg (by unfold keptN; omega)] at hc
            have hk2 : keep ≤ (n : Int) := by omega
            go_wp2_with fail
            all_goals first | (exfalso; omega) | (go_roundw; (case rel => first | exact ⟨rfl, n + 1, by omega, by go_num⟩ | exact ⟨trivial, n + 1, by omega, by go_num⟩); (case measure => simp [RowKit.intOf]; omega))
        · have e : n = G.L := by omega
          have hge : ¬ (n : Int) < (G.L : Int) := by omega
          go_wp2_with fail
          refine (awake7_any _).mono ?_
          rintro e w11 ⟨rfl, q11⟩
          have h11 := h10.below q11
          have r11 := r10.below q11
          clear h10 r10 q11
          go_wp2_with fail
          have hp3 : S3.doProgram G x 0 Z = (71, S3) := program_order HU3.out (HFIT.out _ HZL.out) (by rw [HN3.out]; decide)
          have hpr := chipProgram_any x 0 hx (i64_small (by decide)) _ _ _ _ w11 h11.chip r11.row r11.off HIB.out (by omega)
          rw [hp3] at hpr
          refine hpr.mono ?_
          rintro e w12 ⟨rfl, d12⟩
          obtain ⟨F12, h12, o12⟩ := h11.does d12
          have r12 := o12 _ _ _ _ _ r11
          clear hpr hp3 d12 o12 h11 r11
          go_wp2_with fail
          have hp4 : S3.doErase G x = (0, (S3.counted.wipe G.L x G.p.toNat).next0 x) := erase_ok HU3.out ⟨hx0, hx1⟩ (by rw [HA3.out]; decide) HW3.out
          rw [counted_zero HA3.out] at hp4
          have her := chipErase_any x hx w12 h12.chip
          rw [hp4] at her
          refine her.mono ?_
          rintro e w13 ⟨rfl, d13⟩
          obtain ⟨F13, h13, o13⟩ := h12.does d13
          have r13 := o13 _ _ _ _ _ r12
          clear her hp4 d13 o13 h12 r12
          go_wp2_with fail
          have hp5 : ((S3.wipe G.L x G.p.toNat).next0 x).doProgram G x 0 Z = (0, ((S3.wipe G.L x G.p.toNat).next0 x).counted.lay x 0 Z) := program_ok HU3.out (HFIT.out _ HZL.out) (next0_nx _ x).symm (by show S3.ah ≠ 1; rw [HA3.out]; decide) HW3.out
          have hpr := chipProgram_any x 0 hx (i64_small (by decide)) _ _ _ _ w13 h13.chip r13.row r13.off HIB.out (by omega)
          rw [hp5] at hpr
          refine hpr.mono ?_
          rintro e w14 ⟨rfl, d14⟩
          obtain ⟨F14, h14, o14⟩ := h13.does d14
          clear hpr hp5 d14 o14 h13 r13
          go_wp2_with fail
          go_ret
          exact ⟨rfl, btrans HQ0.out h14.bel⟩
end Go.Proofs.Ytjagnpljhedfjaa
