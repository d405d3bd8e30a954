/-
  A walk of layer 7's law ChipOnce. (Written by tools/gen/chip_law_once.py.)
-/
import Derived.Test.YtjagnpljhedfjaaChipMore
namespace Go.Proofs.Ytjagnpljhedfjaa
open Go.RowKit Go.Maps
set_option linter.unusedVariables false
set_option maxRecDepth 8192

/-- What holds when the first n pages of the block x are programmed. -/
structure OInv (S : CS) (x : Int) (n : Nat) : Prop where
  up : S.up = true
  ah : S.ah = 0
  wk : S.wk x = false
  nx : S.nx x = n
  wr : ∀ p, S.wr x p = fun _ => false
theorem OInv.step {S : CS} {x : Int} {n : Nat} (h : OInv S x n) {G : Geo} {z : List Int} (hf : fitsP G x n z.length = true) :
    ∃ S', S.doProgram G x n z = (0, S') ∧ S'.doProgram G x n z = (71, S') ∧ OInv S' x (n + 1) ∧ readZ G.L (S'.pg x n) (S'.wr x n) = z := by
  refine ⟨S.lay x n z, ?_, ?_, ⟨h.up, h.ah, h.wk, ?_, h.wr⟩, ?_⟩
  · rw [program_ok h.up hf h.nx.symm (by rw [h.ah]; decide) h.wk, counted_zero h.ah]
  · refine program_order h.up hf ?_
    rw [lay_nx, h.nx]; omega
  · rw [lay_nx, h.nx]; omega
  · rw [lay_pg, show (S.lay x n z).wr x n = fun _ => false from h.wr n, readZ_none]
set_option maxHeartbeats 3200000 in
set_option maxRecDepth 100000 in
theorem walk_chipOnce (b p s n f : Int) (x fill : Int) (w : World) (hx : I64 x) (hfl : 0 ≤ fill ∧ fill ≤ 255) :
    Calls Try.prog 5 #[.agg #[.int .i64 b, .int .i64 p, .int .i64 s, .int .i64 n, .int .i64 f], .int .i64 x, .int .u8 fill] w fun e w' => e = .returned (.bool true) ∧ Below w.heap.size w w' := by
  cases hsm : small7 b p s n f
  · go_enter Try.func5, Try.ntmps5
    go_wp2_with fail
    refine (small7_any b p s n f _).mono ?_
    rintro e w1 ⟨rfl, q1⟩
    rw [hsm]
    go_wp2_with fail
    go_ret
    exact ⟨rfl, btrans (below_one _ _) q1⟩
  cases hmy : mayG b p s n f
  · go_enter Try.func5, Try.ntmps5
    go_wp2_with fail
    refine (small7_any b p s n f _).mono ?_
    rintro e w1 ⟨rfl, q1⟩
    rw [hsm]
    obtain ⟨_, c0, c1, c2, c3, c4⟩ := (gbox_new w 23 b p s n f).below q1 (Nat.le_refl _)
    go_wp2_with fail
    refine (refMay_any b p s n f _).mono ?_
    rintro e w2 ⟨rfl, q2⟩
    rw [hmy]
    go_wp2_with fail
    go_ret
    exact ⟨rfl, btrans (btrans (below_one _ _) q1) q2⟩
  obtain ⟨G, rfl, rfl, rfl, rfl, rfl, hb16, hp8⟩ := geo_ex hsm hmy
  by_cases hcd : 0 ≤ x ∧ x < G.b
  case neg =>
    go_enter Try.func5, Try.ntmps5
    go_wp2_with fail
    refine (small7_any G.b G.p G.s G.n G.f _).mono ?_
    rintro e w1 ⟨rfl, q1⟩
    rw [hsm]
    obtain ⟨_, c0, c1, c2, c3, c4⟩ := (gbox_new w 23 G.b G.p G.s G.n G.f).below q1 (Nat.le_refl _)
    go_wp2_with fail
    refine (refMay_any G.b G.p G.s G.n G.f _).mono ?_
    rintro e w2 ⟨rfl, q2⟩
    rw [hmy]
    clear c0 c1 c2 c3 c4
    obtain ⟨_, c0, c1, c2, c3, c4⟩ := ((gbox_new w 23 G.b G.p G.s G.n G.f).below q1 (Nat.le_refl _)).below q2 (Nat.le_refl _)
    go_wp2_with fail
    all_goals first | (exfalso; omega) | (go_ret; exact ⟨rfl, btrans (btrans (below_one _ _) q1) q2⟩)
  have HSM : Hid (small7 G.b G.p G.s G.n G.f = true) := hsm
  have HMY : Hid (mayG G.b G.p G.s G.n G.f = true) := hmy
  clear hsm hmy
  have hL := G.ok.L2
  have hLm : G.L ≤ maxLen := by unfold maxLen; omega
  go_enter Try.func5, Try.ntmps5
  go_wp2_with fail
  have q0 := below_one w (.cells #[.int .i64 G.b, .int .i64 G.p, .int .i64 G.s, .int .i64 G.n, .int .i64 G.f] 23)
  have gb := gbox_new w 23 G.b G.p G.s G.n G.f
  have HQ0 : Hid (Below w.heap.size w (w.alloc (.cells #[.int .i64 G.b, .int .i64 G.p, .int .i64 G.s, .int .i64 G.n, .int .i64 G.f] 23))) := q0
  clear q0
  generalize hg0 : w.heap.size = g at gb ⊢
  have HG0 : Hid (w.heap.size = g) := hg0
  clear hg0
  generalize w.alloc (.cells #[.int .i64 G.b, .int .i64 G.p, .int .i64 G.s, .int .i64 G.n, .int .i64 G.f] 23) = W at *
  refine (small7_any _ _ _ _ _ _).mono ?_
  rintro e w1 ⟨rfl, q1⟩
  rw [HSM.out]
  have gb1 := gb.below q1 (Nat.le_refl _)
  obtain ⟨_, c0, c1, c2, c3, c4⟩ := gb1
  go_wp2_with fail
  clear c0 c1 c2 c3 c4
  refine (refMay_any _ _ _ _ _ _).mono ?_
  rintro e w2 ⟨rfl, q2⟩
  rw [HMY.out]
  replace q2 := btrans q1 q2
  clear q1
  have gb1 := gb.below q2 (Nat.le_refl _)
  obtain ⟨_, c0, c1, c2, c3, c4⟩ := gb1
  obtain ⟨hx0, hx1⟩ := hcd
  go_wp2_with fail
  clear c0 c1 c2 c3 c4
  refine (chipNew_nil G _).mono ?_
  rintro e w3 ⟨c, rfl, hnew⟩
  obtain ⟨B, F, rfl, h3⟩ := newChip_here q2 hnew
  clear q2 hnew
  have gb3 := gb.below h3.bel (Nat.le_refl _)
  obtain ⟨_, c0, c1, c2, c3, c4⟩ := gb3
  go_wp2_with fail
  clear c0 c1 c2 c3 c4
  refine (refRaw_any G.ok _).mono ?_
  rintro e w4 ⟨rfl, q4⟩
  have h4 := h3.below q4
  clear h3 q4
  obtain ⟨w5, hmk, hg5, q5⟩ := makeB G.L (by omega) w4
  obtain ⟨w6, hmk2, hg6, q6⟩ := makeB G.L (by omega) w5
  have z5 : Blk w5 w4.heap.size (fillZ fill 0 G.L) := by unfold Blk; rw [fillZ_zero]; exact hg5
  have y6 : Blk w6 w5.heap.size (fillZ 255 0 G.L) := by unfold Blk; rw [fillZ_zero]; exact hg6
  have z6 : Blk w6 w4.heap.size (fillZ fill 0 G.L) := z5.same (q6.block _ z5.lt)
  have h6 := (h4.below q5).below q6
  have hrF : ¬ F w4.heap.size := fun hf => by have := h4.chip.fresh _ hf; omega
  have hqF : ¬ F w5.heap.size := fun hf => by have := (h4.below q5).chip.fresh _ hf; omega
  have hrq : w4.heap.size ≠ w5.heap.size := by have := z5.lt; omega
  have HWR : Hid (W.heap.size ≤ w4.heap.size ∧ W.heap.size ≤ w5.heap.size) := ⟨h4.bel.size, (h4.below q5).bel.size⟩
  clear hg5 q5 hg6 q6 h4 z5
  generalize w4.heap.size = r at *
  generalize w5.heap.size = q at *
  go_wp2_with fail
  clear hmk hmk2
  go_loopw [11] (fun i wr => ∃ n : Nat, n ≤ G.L ∧ i = .int .i64 (n : Int) ∧ Hid (Blk wr r (fillZ fill n G.L)) ∧ Hid (Blk wr q (fillZ 255 n G.L)) ∧ Hid (Turned (fun k => k = r ∨ k = q) w6 wr)) (fun i _ => G.L - (RowKit.intOf i).toNat)
  case atStart => exact ⟨0, Nat.zero_le _, rfl, z6, y6, Turned.refl _ _⟩
  case round =>
    obtain ⟨n, hn, rfl, hz, hy, ht⟩ := hrel
    by_cases hlt : n < G.L
    · have hlt' : (n : Int) < (G.L : Int) := by omega
      have cn := hz.out.cell (i := n) (by rw [fillZ_len fill hn]; exact hlt)
      have fn := hz.out.frozen n
      have hy1 : Blk (wr.setCell ⟨r, n, none⟩ (.int .u8 fill)) q (fillZ 255 n G.L) := hy.out.same (Below.heap_setCell wr _ _ q (Ne.symm hrq))
      have cq := hy1.cell (i := n) (by rw [fillZ_len 255 hn]; exact hlt)
      have fq := hy.out.frozen n
      have hz1 := hz.out.set n fill
      have hy2 := hy1.set n 255
      rw [fillZ_set fill hlt] at hz1
      rw [fillZ_set 255 hlt] at hy2
      have HZ2 : Hid (Blk ((wr.setCell ⟨r, n, none⟩ (.int .u8 fill)).setCell ⟨q, n, none⟩ (.int .u8 255)) r (fillZ fill (n + 1) G.L)) := hz1.same (Below.heap_setCell _ _ _ r hrq)
      have HY2 : Hid (Blk ((wr.setCell ⟨r, n, none⟩ (.int .u8 fill)).setCell ⟨q, n, none⟩ (.int .u8 255)) q (fillZ 255 (n + 1) G.L)) := hy2
      have HT2 : Hid (Turned (fun k => k = r ∨ k = q) w6 ((wr.setCell ⟨r, n, none⟩ (.int .u8 fill)).setCell ⟨q, n, none⟩ (.int .u8 255))) := (ht.out.setCell (p := ⟨r, n, none⟩) (.inl (.inl rfl)) _).setCell (p := ⟨q, n, none⟩) (.inl (.inr rfl)) _
      clear hz ht hy hz1 hy1 hy2
      generalize (fillZ fill n G.L)[n]?.getD 0 = old at *
      generalize (fillZ 255 n G.L)[n]?.getD 0 = old2 at *
      go_wp2_with fail
      go_roundw
      case rel => exact ⟨n + 1, by omega, by go_num, HZ2, HY2, HT2⟩
      case measure => simp [RowKit.intOf]; omega
    · have e : n = G.L := by omega
      subst e
      have hz7 := hz.out
      have hy7 := hy.out
      rw [fillZ_all] at hz7 hy7
      have HZL : Hid ((List.replicate G.L fill).length = G.L) := by simp [Hid]
      have h7 : Here W G B F 0 (CS.fresh G.L [] ([] : List Int).length) wr := ⟨h6.chip.turned ht.out (fun k hk e => e.elim (fun e => hrF (e ▸ hk)) (fun e => hqF (e ▸ hk))), h6.low, h6.bel.trans (ht.out.below h6.bel.size (fun k e => by have := HWR.out; omega))⟩
      have r7 : Off F .u8 wr (some ⟨r, 0, none⟩) G.L G.L (List.replicate G.L fill) := hz7.off (by simp) hLm hrF
      have s7 : Off F .u8 wr (some ⟨q, 0, none⟩) G.L G.L (List.replicate G.L 255) := hy7.off (by simp) hLm hqF
      have HIB : Hid (IsB (List.replicate G.L fill)) := isB_rep hfl G.L
      have HFIT : Hid (∀ (y : Int) len, 0 ≤ y → y < G.p → len = G.L → fitsP G x y len = true) := fun y len h1 h2 hl => fitsP_of ⟨hx0, hx1⟩ ⟨h1, h2⟩ hl
      have HHAS : Hid (∀ y : Int, 0 ≤ y → y < G.p → hasP G x y = true) := fun y h1 h2 => hasP_of ⟨hx0, hx1⟩ ⟨h1, h2⟩
      have HP : Hid (G.p = ((G.p.toNat : Nat) : Int)) := G.pn
      have hpb := G.ok.hp
      clear hz ht hz7 hy hy7 h6 z6 y6
      generalize List.replicate G.L fill = Z at *
      generalize hY : List.replicate G.L (255 : Int) = Y at *
      have HYY : Hid (List.replicate G.L (255 : Int) = Y) := hY
      clear hY
      have H0 : Hid (∃ F S, Here W G B F (4 * 0) S wr ∧ Off F .u8 wr (some ⟨r, 0, none⟩) G.L G.L Z ∧ Off F .u8 wr (some ⟨q, 0, none⟩) G.L G.L Y ∧ OInv S x 0) := ⟨F, _, h7, r7, s7, ⟨rfl, rfl, rfl, rfl, fun _ => rfl⟩⟩
      clear h7 r7 s7
      go_wp2_with fail
      go_loopw [12] (fun i wx => ∃ n : Nat, (n : Int) ≤ G.p ∧ i = .int .i64 (n : Int) ∧ Hid (∃ F S, Here W G B F (4 * n) S wx ∧ Off F .u8 wx (some ⟨r, 0, none⟩) G.L G.L Z ∧ Off F .u8 wx (some ⟨q, 0, none⟩) G.L G.L Y ∧ OInv S x n)) (fun i _ => G.p.toNat - (RowKit.intOf i).toNat)
      case atStart => exact ⟨0, by omega, rfl, H0⟩
      case round =>
        clear H0
        obtain ⟨n, hn, rfl, HI⟩ := hrel
        obtain ⟨F2, S2, h2, r2, s2, hinv⟩ := HI.out
        have HGB : Hid (GBox wr g G.b G.p G.s G.n G.f) := gb.below h2.bel (Nat.le_refl _)
        obtain ⟨_, c0, c1, c2, c3, c4⟩ := HGB.out
        clear HI HGB
        by_cases hlt2 : (n : Int) < G.p
        · have hn64 : I64 (n : Int) := i64_small (by omega)
          obtain ⟨S3, hdo, hdo2, hinv3, hread⟩ := hinv.step (G := G) (z := Z) (HFIT.out _ _ (by omega) hlt2 HZL.out)
          have hpr := chipProgram_any x (n : Int) hx hn64 _ _ _ _ wr h2.chip r2.row r2.off HIB.out (by omega)
          rw [hdo] at hpr
          go_wp2_with fail
          clear c0 c1 c2 c3 c4
          refine hpr.mono ?_
          rintro e w8 ⟨rfl, d8⟩
          obtain ⟨F8, h8, o8⟩ := h2.does d8
          have r8 := o8 _ _ _ _ _ r2
          have s8 := o8 _ _ _ _ _ s2
          clear hpr d8 o8 h2 r2 s2 hdo hinv
          have hpr := chipProgram_any x (n : Int) hx hn64 _ _ _ _ w8 h8.chip r8.row r8.off HIB.out (by omega)
          rw [hdo2] at hpr
          go_wp2_with fail
          refine hpr.mono ?_
          rintro e w9 ⟨rfl, d9⟩
          obtain ⟨F9, h9, o9⟩ := h8.does d9
          have r9 := o9 _ _ _ _ _ r8
          have s9 := o9 _ _ _ _ _ s8
          clear hpr d9 o9 h8 r8 s8 hdo2
          go_wp2_with fail
          refine (chipRead_yes x (n : Int) hx hn64 _ h9.chip hinv3.up (HHAS.out _ (by omega) hlt2)).mono ?_
          rw [hread]
          rintro e w10 ⟨qq, hqq, rfl, rr, q10⟩
          have h10 := h9.below q10
          have r10 := r9.below q10
          have s10 := s9.below q10
          have k1 := conv_row (P := Try.prog) Try.underlying38 Try.underlying5 Try.underlying9 rr
          have k2 := conv_row (P := Try.prog) Try.underlying38 Try.underlying5 Try.underlying9 r10.row
          have HI2 : Hid (∃ F S, Here W G B F (4 * (n + 1)) S w10 ∧ Off F .u8 w10 (some ⟨r, 0, none⟩) G.L G.L Z ∧ Off F .u8 w10 (some ⟨q, 0, none⟩) G.L G.L Y ∧ OInv S x (n + 1)) := ⟨F9, S3, ⟨h10.chip.mono (by omega), h10.low, h10.bel⟩, r10, s10, hinv3⟩
          clear h10 r10 s10 h9 r9 s9 q10 rr hqq hinv3 hread
          go_wp2_with fail
          go_roundw
          case rel => exact ⟨n + 1, by omega, by go_num, HI2⟩
          case measure => simp [RowKit.intOf]; omega
        · have hne : ¬ (n : Int) < G.p := hlt2
          have hp4 : S2.doErase G x = (0, (S2.counted.wipe G.L x G.p.toNat).next0 x) := erase_ok hinv.up ⟨hx0, hx1⟩ (by rw [hinv.ah]; decide) hinv.wk
          rw [counted_zero hinv.ah] at hp4
          have her := chipErase_any x hx wr h2.chip
          rw [hp4] at her
          go_wp2_with fail
          clear c0 c1 c2 c3 c4
          refine her.mono ?_
          rintro e w8 ⟨rfl, d8⟩
          obtain ⟨F8, h8, o8⟩ := h2.does d8
          have r8 := o8 _ _ _ _ _ r2
          have s8 := o8 _ _ _ _ _ s2
          obtain ⟨S4, hS4⟩ : ∃ S4, S4 = (S2.wipe G.L x G.p.toNat).next0 x := ⟨_, rfl⟩
          replace h8 := h8.same hS4.symm
          have HU4 : Hid (S4.up = true) := by show _ = _; rw [hS4]; exact hinv.up
          have HA4 : Hid (S4.ah = 0) := by show _ = _; rw [hS4]; exact hinv.ah
          have HW4 : Hid (S4.wk x = false) := by show _ = _; rw [hS4]; exact hinv.wk
          have HN4 : Hid (S4.nx x = 0) := by show _ = _; rw [hS4, next0_nx]
          have HR4 : Hid (∀ y : Int, 0 ≤ y → y < G.p → readZ G.L (S4.pg x y) (S4.wr x y) = Y) := fun y hy0 hy1 => by
            rw [hS4]
            show readZ G.L ((S2.wipe G.L x G.p.toNat).pg x y) ((S2.wipe G.L x G.p.toNat).wr x y) = Y
            rw [wipe_pg _ _ _ _ ⟨hy0, by rw [← HP.out]; exact hy1⟩, wipe_wr _ _ _ _ ⟨hy0, by rw [← HP.out]; exact hy1⟩, readZ_none, HYY.out]
          have H8 : Hid (Here W G B F8 (4 * n) S4 w8 ∧ Off F8 .u8 w8 (some ⟨r, 0, none⟩) G.L G.L Z ∧ Off F8 .u8 w8 (some ⟨q, 0, none⟩) G.L G.L Y) := ⟨h8, r8, s8⟩
          clear her hp4 d8 o8 h2 r2 s2 hinv hS4 h8 r8 s8
          go_wp2_with fail
          go_loopw [15] (fun i wx => ∃ k : Nat, (k : Int) ≤ G.p ∧ i = .int .i64 (k : Int) ∧ Hid (Here W G B F8 (4 * n) S4 wx ∧ Off F8 .u8 wx (some ⟨r, 0, none⟩) G.L G.L Z ∧ Off F8 .u8 wx (some ⟨q, 0, none⟩) G.L G.L Y)) (fun i _ => G.p.toNat - (RowKit.intOf i).toNat)
          case atStart => exact ⟨0, by omega, rfl, H8⟩
          case round =>
            clear H8
            obtain ⟨k, hk, rfl, HI⟩ := hrel
            obtain ⟨h9, r9, s9⟩ := HI.out
            have HGB : Hid (GBox wr g G.b G.p G.s G.n G.f) := gb.below h9.bel (Nat.le_refl _)
            obtain ⟨_, c0, c1, c2, c3, c4⟩ := HGB.out
            clear HI HGB
            by_cases hlt3 : (k : Int) < G.p
            · have hk64 : I64 (k : Int) := i64_small (by omega)
              go_wp2_with fail
              clear c0 c1 c2 c3 c4
              refine (chipRead_yes x (k : Int) hx hk64 _ h9.chip HU4.out (HHAS.out _ (by omega) hlt3)).mono ?_
              rw [HR4.out _ (by omega) hlt3]
              rintro e w10 ⟨qq, hqq, rfl, rr, q10⟩
              have k1 := conv_row (P := Try.prog) Try.underlying38 Try.underlying5 Try.underlying9 rr
              have k2 := conv_row (P := Try.prog) Try.underlying38 Try.underlying5 Try.underlying9 (s9.below q10).row
              have HI2 : Hid (Here W G B F8 (4 * n) S4 w10 ∧ Off F8 .u8 w10 (some ⟨r, 0, none⟩) G.L G.L Z ∧ Off F8 .u8 w10 (some ⟨q, 0, none⟩) G.L G.L Y) := ⟨h9.below q10, r9.below q10, s9.below q10⟩
              clear h9 r9 s9 q10 rr hqq
              go_wp2_with fail
              go_roundw
              case rel => exact ⟨k + 1, by omega, by go_num, HI2⟩
              case measure => simp [RowKit.intOf]; omega
            · have hne3 : ¬ (k : Int) < G.p := hlt3
              go_wp2_with fail
              clear c0 c1 c2 c3 c4
              refine (awake7_any _).mono ?_
              rintro e w11 ⟨rfl, q11⟩
              have h11 := h9.below q11
              have r11 := r9.below q11
              clear h9 r9 s9 q11
              have hp5 : S4.doProgram G x 0 Z = (0, S4.counted.lay x 0 Z) := program_ok HU4.out (HFIT.out _ _ (by omega) (by omega) HZL.out) HN4.out.symm (by rw [HA4.out]; decide) HW4.out
              have hpr := chipProgram_any x 0 hx (i64_small (by decide)) _ _ _ _ w11 h11.chip r11.row r11.off HIB.out (by omega)
              rw [hp5] at hpr
              go_wp2_with fail
              refine hpr.mono ?_
              rintro e w12 ⟨rfl, d12⟩
              obtain ⟨F12, h12, o12⟩ := h11.does d12
              clear hpr hp5 d12 o12 h11 r11
              go_wp2_with fail
              go_ret
              exact ⟨rfl, btrans HQ0.out h12.bel⟩
end Go.Proofs.Ytjagnpljhedfjaa
