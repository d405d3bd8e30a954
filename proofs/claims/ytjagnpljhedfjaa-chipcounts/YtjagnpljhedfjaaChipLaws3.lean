/-
  A walk of layer 7's law ChipCounts. (Written by tools/gen/chip_law_counts.py.)
-/
import Derived.Test.YtjagnpljhedfjaaChipMore
namespace Go.Proofs.Ytjagnpljhedfjaa
open Go.RowKit Go.Maps
set_option linter.unusedVariables false
set_option maxRecDepth 8192

/-- What holds when t pages were to be programmed, the n-th of which is cut: bb, pp: the next one. -/
def CInv (n : Int) (S : CS) (bb pp : Nat) (t done : Int) : Prop :=
  (t < n ∧ S.up = true ∧ S.ah = n - t ∧ done = t ∧ (∀ x, S.wk x = false) ∧ S.nx bb = pp ∧ ∀ x, (bb : Int) < x → S.nx x = 0) ∨ (n ≤ t ∧ S.up = false ∧ done = n - 1)
theorem CInv.step {n : Int} {S : CS} {bb pp : Nat} {t done : Int} (h : CInv n S bb pp t done) {G : Geo} {z : List Int} (hf : fitsP G bb pp z.length = true) :
    ∃ c S', S.doProgram G bb pp z = (c, S') ∧ ((c = 0 ∧ CInv n S' bb (pp + 1) (t + 1) (done + 1)) ∨ (c = 70 ∧ CInv n S' bb (pp + 1) (t + 1) done)) := by
  rcases h with ⟨h1, h2, h3, h4, h5, h6, h7⟩ | ⟨h1, h2, h3⟩
  · by_cases ha : S.ah = 1
    · refine ⟨_, _, program_cut h2 hf h6.symm ha, .inr ⟨rfl, .inr ⟨by omega, ?_, by omega⟩⟩⟩
      rw [counted_one ha]; rfl
    · refine ⟨_, _, program_ok h2 hf h6.symm ha (h5 _), .inl ⟨rfl, .inl ⟨by omega, ?_, ?_, by omega, ?_, ?_, ?_⟩⟩⟩
      · rw [counted_more (by omega)]; exact h2
      · rw [counted_more (by omega)]; show S.ah - 1 = _; omega
      · intro x; rw [counted_more (by omega)]; exact h5 x
      · rw [lay_nx, counted_more (by omega)]; show max (S.nx bb) _ = _; rw [h6]; omega
      · intro x hx; rw [lay_nx_other _ _ _ _ (by omega), counted_more (by omega)]; exact h7 x hx
  · exact ⟨_, _, program_down h2, .inr ⟨rfl, .inr ⟨by omega, h2, h3⟩⟩⟩
theorem CInv.next {n : Int} {S : CS} {bb pp : Nat} {t done : Int} (h : CInv n S bb pp t done) : CInv n S (bb + 1) 0 t done := by
  rcases h with ⟨h1, h2, h3, h4, h5, h6, h7⟩ | h
  · exact .inl ⟨h1, h2, h3, h4, h5, h7 _ (by omega), fun x hx => h7 x (by omega)⟩
  · exact .inr h
theorem geo_mul (G : Geo) (hb : G.b ≤ 16) (hp : G.p ≤ 8) : 0 ≤ G.b * G.p ∧ G.b * G.p ≤ 128 := by
  have h1 := G.ok.hb
  have h2 := G.ok.hp
  obtain ⟨B, hB⟩ := Int.eq_ofNat_of_zero_le (show 0 ≤ G.b by omega)
  obtain ⟨P, hP⟩ := Int.eq_ofNat_of_zero_le (show 0 ≤ G.p by omega)
  rw [hB, hP, ← Int.natCast_mul]
  have : B * P ≤ 16 * 8 := Nat.mul_le_mul (by omega) (by omega)
  omega
set_option maxHeartbeats 3200000 in
set_option maxRecDepth 100000 in
theorem walk_chipCounts (b p s n f : Int) (x : Int) (w : World) (hx : I64 x) :
    Calls Try.prog 8 #[.agg #[.int .i64 b, .int .i64 p, .int .i64 s, .int .i64 n, .int .i64 f], .int .i64 x] w fun e w' => e = .returned (.bool true) ∧ Below w.heap.size w w' := by
  cases hsm : small7 b p s n f
  · go_enter Try.func8, Try.ntmps8
    go_wp2_with fail
    refine (small7_any b p s n f _).mono ?_
    rintro e w1 ⟨rfl, q1⟩
    rw [hsm]
    go_wp2_with fail
    go_ret
    exact ⟨rfl, btrans (below_one _ _) q1⟩
  cases hmy : mayG b p s n f
  · go_enter Try.func8, Try.ntmps8
    go_wp2_with fail
    refine (small7_any b p s n f _).mono ?_
    rintro e w1 ⟨rfl, q1⟩
    rw [hsm]
    obtain ⟨_, c0, c1, c2, c3, c4⟩ := (gbox_new w 23 b p s n f).below q1 (Nat.le_refl _)
    go_wp2_with fail
    refine (refMay_any b p s n f _).mono ?_
    rintro e w2 ⟨rfl, q2⟩
    rw [hmy]
    go_wp2_with fail
    go_ret
    exact ⟨rfl, btrans (btrans (below_one _ _) q1) q2⟩
  obtain ⟨G, rfl, rfl, rfl, rfl, rfl, hb16, hp8⟩ := geo_ex hsm hmy
  have hmul := geo_mul G hb16 hp8
  by_cases hcd : 1 ≤ x ∧ x ≤ G.b * G.p
  case neg =>
    go_enter Try.func8, Try.ntmps8
    go_wp2_with fail
    refine (small7_any G.b G.p G.s G.n G.f _).mono ?_
    rintro e w1 ⟨rfl, q1⟩
    rw [hsm]
    obtain ⟨_, c0, c1, c2, c3, c4⟩ := (gbox_new w 23 G.b G.p G.s G.n G.f).below q1 (Nat.le_refl _)
    go_wp2_with fail
    refine (refMay_any G.b G.p G.s G.n G.f _).mono ?_
    rintro e w2 ⟨rfl, q2⟩
    rw [hmy]
    clear c0 c1 c2 c3 c4
    obtain ⟨_, c0, c1, c2, c3, c4⟩ := ((gbox_new w 23 G.b G.p G.s G.n G.f).below q1 (Nat.le_refl _)).below q2 (Nat.le_refl _)
    go_wp2_with fail
    all_goals first | (exfalso; omega) | (go_ret; exact ⟨rfl, btrans (btrans (below_one _ _) q1) q2⟩)
  have HSM : Hid (small7 G.b G.p G.s G.n G.f = true) := hsm
  have HMY : Hid (mayG G.b G.p G.s G.n G.f = true) := hmy
  clear hsm hmy
  have hL := G.ok.L2
  have hLm : G.L ≤ maxLen := by unfold maxLen; omega
  go_enter Try.func8, Try.ntmps8
  go_wp2_with fail
  have q0 := below_one w (.cells #[.int .i64 G.b, .int .i64 G.p, .int .i64 G.s, .int .i64 G.n, .int .i64 G.f] 23)
  have gb := gbox_new w 23 G.b G.p G.s G.n G.f
  have HQ0 : Hid (Below w.heap.size w (w.alloc (.cells #[.int .i64 G.b, .int .i64 G.p, .int .i64 G.s, .int .i64 G.n, .int .i64 G.f] 23))) := q0
  clear q0
  generalize hg0 : w.heap.size = g at gb ⊢
  have HG0 : Hid (w.heap.size = g) := hg0
  clear hg0
  generalize w.alloc (.cells #[.int .i64 G.b, .int .i64 G.p, .int .i64 G.s, .int .i64 G.n, .int .i64 G.f] 23) = W at *
  refine (small7_any _ _ _ _ _ _).mono ?_
  rintro e w1 ⟨rfl, q1⟩
  rw [HSM.out]
  have gb1 := gb.below q1 (Nat.le_refl _)
  obtain ⟨_, c0, c1, c2, c3, c4⟩ := gb1
  go_wp2_with fail
  clear c0 c1 c2 c3 c4
  refine (refMay_any _ _ _ _ _ _).mono ?_
  rintro e w2 ⟨rfl, q2⟩
  rw [HMY.out]
  replace q2 := btrans q1 q2
  clear q1
  have gb1 := gb.below q2 (Nat.le_refl _)
  obtain ⟨_, c0, c1, c2, c3, c4⟩ := gb1
  obtain ⟨hx0, hx1⟩ := hcd
  go_wp2_with fail
  clear c0 c1 c2 c3 c4
  refine (chipNew_nil G _).mono ?_
  rintro e w3 ⟨c, rfl, hnew⟩
  obtain ⟨B, F, rfl, h3⟩ := newChip_here q2 hnew
  clear q2 hnew
  have gb3 := gb.below h3.bel (Nat.le_refl _)
  obtain ⟨_, c0, c1, c2, c3, c4⟩ := gb3
  go_wp2_with fail
  clear c0 c1 c2 c3 c4
  refine (refRaw_any G.ok _).mono ?_
  rintro e w4 ⟨rfl, q4⟩
  have h4 := h3.below q4
  clear h3 q4
  obtain ⟨w5, hmk, hg5, q5⟩ := makeB G.L (by omega) w4
  have z5 : Blk w5 w4.heap.size (fillZ 0 0 G.L) := by unfold Blk; rw [fillZ_zero]; exact hg5
  have h5 := h4.below q5
  have hrF : ¬ F w4.heap.size := fun hf => by have := h4.chip.fresh _ hf; omega
  clear hg5 q5 h4
  generalize w4.heap.size = r at *
  go_wp2_with fail
  clear hmk
  have HIB : Hid (IsB (fillZ 0 0 G.L)) := by show IsB _; rw [fillZ_zero]; exact isB_zeros _
  have HZL : Hid ((fillZ 0 0 G.L).length = G.L) := fillZ_len 0 (Nat.zero_le _)
  have r5 : Off F .u8 w5 (some ⟨r, 0, none⟩) G.L G.L (fillZ 0 0 G.L) := z5.off HZL.out hLm hrF
  clear z5
  generalize fillZ 0 0 G.L = Z at *
  refine (chipArm_any x 0 hx (i64_small (by decide)) _ h5.chip).mono ?_
  rintro e w6 ⟨⟨r6, rfl⟩, hc6, t6⟩
  obtain ⟨h6, o6⟩ := h5.turned hc6 t6
  have r6 := o6 _ _ _ _ _ r5
  clear hc6 t6 o6 h5 r5 hrF
  have H0 : Hid (∃ F S, Here W G B F (2 * (8 * 0 + 0)) S w6 ∧ Off F .u8 w6 (some ⟨r, 0, none⟩) G.L G.L Z ∧ CInv x S 0 0 0 0) := by
    refine ⟨F, _, h6, r6, .inl ⟨by omega, rfl, ?_, rfl, fun _ => rfl, rfl, fun _ _ => rfl⟩⟩
    show max x 0 = x - 0
    omega
  clear h6 r6
  have hbb := G.ok.hb
  have hpp := G.ok.hp
  go_wp2_with fail
  go_loopw [8, 9] (fun d i wr => ∃ (bb : Nat) (dn : Int), (bb : Int) ≤ G.b ∧ 0 ≤ dn ∧ dn ≤ 200 ∧ i = .int .i64 (bb : Int) ∧ d = .int .i64 dn ∧ Hid (∃ F S, Here W G B F (2 * (8 * bb + 0)) S wr ∧ Off F .u8 wr (some ⟨r, 0, none⟩) G.L G.L Z ∧ CInv x S bb 0 ((bb : Int) * G.p) dn)) (fun _ i _ => G.b.toNat - (RowKit.intOf i).toNat)
  case atStart => exact ⟨0, 0, by omega, by omega, by omega, rfl, rfl, by simpa using H0⟩
  case round =>
    obtain ⟨bb, dn, hbl, hd0, hd1, rfl, rfl, HI⟩ := hrel
    have HGB : Hid (GBox wr g G.b G.p G.s G.n G.f) := by obtain ⟨F', S', hh, _⟩ := HI.out; exact gb.below hh.bel (Nat.le_refl _)
    obtain ⟨_, c0, c1, c2, c3, c4⟩ := HGB.out
    by_cases hlt : (bb : Int) < G.b
    · go_wp2_with fail
      clear c0 c1 c2 c3 c4
      go_loopw [8, 10] (fun d i wr2 => ∃ (pp : Nat) (dn : Int), (pp : Int) ≤ G.p ∧ 0 ≤ dn ∧ dn ≤ 200 ∧ i = .int .i64 (pp : Int) ∧ d = .int .i64 dn ∧ Hid (∃ F S, Here W G B F (2 * (8 * bb + pp)) S wr2 ∧ Off F .u8 wr2 (some ⟨r, 0, none⟩) G.L G.L Z ∧ CInv x S bb pp ((bb : Int) * G.p + pp) dn)) (fun _ i _ => G.p.toNat - (RowKit.intOf i).toNat)
      case atStart => exact ⟨0, dn, by omega, hd0, hd1, rfl, rfl, by simpa using HI⟩
      case round =>
        clear HI hd0 hd1 HGB
        obtain ⟨pp, dn, hpl, hd0, hd1, rfl, rfl, HI⟩ := hrel
        obtain ⟨F2, S2, h2, r2, hinv⟩ := HI.out
        have HGB : Hid (GBox wr g G.b G.p G.s G.n G.f) := gb.below h2.bel (Nat.le_refl _)
        obtain ⟨_, c0, c1, c2, c3, c4⟩ := HGB.out
        by_cases hlt2 : (pp : Int) < G.p
        · obtain ⟨c, S3, hdo, hres⟩ := hinv.step (G := G) (z := Z) (fitsP_of ⟨by omega, hlt⟩ ⟨by omega, hlt2⟩ HZL.out)
          have hpr := chipProgram_any (bb : Int) (pp : Int) (i64_small (by omega)) (i64_small (by omega)) _ _ _ _ wr h2.chip r2.row r2.off HIB.out (by omega)
          rw [hdo] at hpr
          go_wp2_with fail
          clear c0 c1 c2 c3 c4
          refine hpr.mono ?_
          rintro e w8 ⟨rfl, d8⟩
          obtain ⟨F8, h8, o8⟩ := h2.does d8
          have r8 := o8 _ _ _ _ _ r2
          have HN8 : Hid (Here W G B F8 (2 * (8 * bb + (pp + 1))) S3 w8) := ⟨h8.chip.mono (by omega), h8.low, h8.bel⟩
          clear hpr d8 o8 h2 r2 hdo HI HGB hinv h8
          rcases hres with ⟨rfl, hi⟩ | ⟨rfl, hi⟩
          · have hdn : dn + 1 ≤ 200 := by rcases hi with ⟨h1, _, _, h2, _⟩ | ⟨_, _, h1⟩ <;> omega
            have HI2 : Hid (∃ F S, Here W G B F (2 * (8 * bb + (pp + 1))) S w8 ∧ Off F .u8 w8 (some ⟨r, 0, none⟩) G.L G.L Z ∧ CInv x S bb (pp + 1) ((bb : Int) * G.p + ((pp + 1 : Nat) : Int)) (dn + 1)) := ⟨F8, S3, HN8.out, r8, by rw [Int.natCast_add, ← Int.add_assoc]; exact hi⟩
            clear HN8 r8 hi
            go_wp2_with fail
            go_roundw
            case rel => exact ⟨pp + 1, dn + 1, by omega, by omega, by omega, by go_num, rfl, HI2⟩
            case measure => simp [RowKit.intOf]; omega
          · have HI2 : Hid (∃ F S, Here W G B F (2 * (8 * bb + (pp + 1))) S w8 ∧ Off F .u8 w8 (some ⟨r, 0, none⟩) G.L G.L Z ∧ CInv x S bb (pp + 1) ((bb : Int) * G.p + ((pp + 1 : Nat) : Int)) dn) := ⟨F8, S3, HN8.out, r8, by rw [Int.natCast_add, ← Int.add_assoc]; exact hi⟩
            clear HN8 r8 hi
            go_wp2_with fail
            go_roundw
            case rel => exact ⟨pp + 1, dn, by omega, by omega, by omega, by go_num, rfl, HI2⟩
            case measure => simp [RowKit.intOf]; omega
        · have hpe : (pp : Int) = G.p := by omega
          have HI2 : Hid (∃ F S, Here W G B F (2 * (8 * (bb + 1) + 0)) S wr ∧ Off F .u8 wr (some ⟨r, 0, none⟩) G.L G.L Z ∧ CInv x S (bb + 1) 0 (((bb + 1 : Nat) : Int) * G.p) dn) := by
            refine ⟨F2, S2, ⟨h2.chip.mono (by omega), h2.low, h2.bel⟩, r2, ?_⟩
            have e : ((bb + 1 : Nat) : Int) * G.p = (bb : Int) * G.p + (pp : Int) := by rw [Int.natCast_add, Int.add_mul, hpe]; simp
            rw [e]; exact hinv.next
          clear h2 r2 hinv HI HGB
          go_wp2_with fail
          go_roundw
          case rel => exact ⟨bb + 1, dn, by omega, by omega, by omega, by go_num, rfl, HI2⟩
          case measure => simp [RowKit.intOf]; omega
    · obtain ⟨F2, S2, h2, r2, hinv⟩ := HI.out
      have hbe : (bb : Int) = G.b := by omega
      rw [hbe] at hinv
      have hfin : S2.up = false ∧ dn = x - 1 := by rcases hinv with ⟨h1, _⟩ | ⟨_, h1, h2⟩; · omega
                                                   · exact ⟨h1, h2⟩
      have HU : Hid (S2.up = false) := hfin.1
      have hdx : (dn == x - 1) = true := by rw [hfin.2]; simp
      clear hfin hinv hbe HI HGB
      go_wp2_with fail
      clear c0 c1 c2 c3 c4
      refine (awake7_any _).mono ?_
      rintro e w9 ⟨rfl, q9⟩
      have h9 := h2.below q9
      clear h2 q9 r2
      go_wp2_with fail
      refine (chipUp_any _ h9.chip.cell).mono ?_
      rw [HU.out]
      rintro e w10 ⟨rfl, rfl⟩
      go_wp2_with fail
      go_ret
      exact ⟨rfl, btrans HQ0.out h9.bel⟩
end Go.Proofs.Ytjagnpljhedfjaa
