/-
  Layer 8's laws: DriveBad, DriveOthers, DriveTorn.
-/
import Derived.Test.YtggpgdaacbmmdaaGreatDriveAwake
namespace Go.Proofs.YtggpgdaacbmmdaaGreat
open Go.RowKit Go.Maps
set_option linter.unusedVariables false
set_option maxRecDepth 8192

theorem wipe_other (S : CS) (L : Nat) (x : Int) (k : Nat) {b : Int} (h : b ≠ x) (p : Int) : (S.wipe L x k).pg b p = S.pg b p ∧ (S.wipe L x k).wr b p = S.wr b p := by
  unfold CS.wipe
  exact ⟨if_neg (fun hh => h hh.1), if_neg (fun hh => h hh.1)⟩
/-- All blocks but one are good. -/
theorem goodTo_but {S : CS} {x : Int} (hu : S.up = true) (hb : ∀ b, S.bd b = decide (b = x)) : ∀ n : Nat, x ∉ S.goodTo n ∧ (S.goodTo n).length = if 0 ≤ x ∧ x < (n : Int) then n - 1 else n := by
  intro n
  induction n with
  | zero => exact ⟨by simp [CS.goodTo], by rw [if_neg (by omega)]; rfl⟩
  | succ n ih =>
    obtain ⟨h1, h2⟩ := ih
    by_cases hx : (n : Int) = x
    · rw [goodTo_miss (fun hh => by rw [hb, decide_eq_true hx] at hh; simp at hh)]
      refine ⟨h1, ?_⟩
      rw [h2, if_neg (by omega), if_pos (by omega)]
      omega
    · rw [goodTo_hit ⟨hu, by rw [hb, decide_eq_false hx]⟩]
      refine ⟨?_, ?_⟩
      · intro hh
        rcases List.mem_append.1 hh with hh | hh
        · exact h1 hh
        · exact hx (List.mem_singleton.1 hh).symm
      · rw [List.length_append, h2]
        by_cases hc : 0 ≤ x ∧ x < (n : Int)
        · rw [if_pos hc, if_pos (by omega)]; simp; omega
        · rw [if_neg hc, if_neg (by omega)]; simp
theorem bit_ff (L q : Nat) (hq : q < 8 * L) : bitI (List.replicate L 255) q = 1 := by
  unfold bitI
  rw [List.getElem?_replicate, if_pos (by omega)]
  rcases (show q % 8 = 0 ∨ q % 8 = 1 ∨ q % 8 = 2 ∨ q % 8 = 3 ∨ q % 8 = 4 ∨ q % 8 = 5 ∨ q % 8 = 6 ∨ q % 8 = 7 by omega) with e | e | e | e | e | e | e | e <;> rw [e] <;> decide
theorem ones_all {z : List Int} : ∀ {n : Nat}, (∀ i, i < n → bitI z i = 1) → onesTo z n = n := by
  intro n
  induction n with
  | zero => intro _; rfl
  | succ n ih => intro h; rw [onesTo_succ, ih fun i hi => h i (by omega), h n (by omega)]; omega
/-- A page of ff is blank. -/
theorem blank_ff {G : Geo} : blankTo G.f (List.replicate G.L 255) G.W G.s = true := by
  rw [blankTo_iff]
  intro i hi
  have h1 := G.ok.at_ hi
  unfold nouN
  rw [ones_all fun q hq => by rw [bitI_part _ _ _ _ hq]; exact bit_ff _ _ (by omega)]
  omega
theorem isRead_ff {G : Geo} {X : List Int} {k : Nat} {er : Int} (h : IsRead G (List.replicate G.L 255) X k er) : X = [] ∧ k = 0 ∧ er = 61 := by
  have hL := G.ok.L2
  have hm : (List.replicate G.L (255 : Int))[G.L - 1]?.getD 0 = 255 := by rw [List.getElem?_replicate, if_pos (by omega)]; rfl
  rcases h with ⟨_, h1, h2, h3⟩ | ⟨h0, _⟩
  · rw [if_pos ⟨hm, blank_ff⟩] at h3; exact ⟨h1, h2, h3⟩
  · rw [hm] at h0; omega
theorem pad_last {L : Nat} {z : List Int} (h : z.length < L) : (padF L z)[L - 1]?.getD 0 = 255 := by
  unfold padF
  rw [List.getElem?_append_right (by omega), List.getElem?_replicate, if_pos (by omega)]
  rfl
/-- A page whose last byte is ff is not read. -/
theorem isRead_torn {G : Geo} {z X : List Int} {k : Nat} {er : Int} (hm : z[G.L - 1]?.getD 0 = 255) (h : IsRead G z X k er) : X = [] ∧ k = 0 ∧ (er = 60 ∨ er = 61) := by
  rcases h with ⟨_, h1, h2, h3⟩ | ⟨h0, _⟩
  · refine ⟨h1, h2, ?_⟩
    rw [h3]
    split
    · exact .inr rfl
    · exact .inl rfl
  · rw [hm] at h0; omega

set_option maxHeartbeats 3200000 in
set_option maxRecDepth 100000 in
theorem walk_driveBad (b p s n f : Int) (x : Int) (a : Option Addr) (len cap : Nat) (z : List Int) (w : World) (hx : I64 x) (hr : Row .u8 w a len cap z) (hz : IsB z) :
    Calls Tryz.prog 5 #[.agg #[.int .i64 b, .int .i64 p, .int .i64 s, .int .i64 n, .int .i64 f], .int .i64 x, .slice a len cap] w fun e w' => e = .returned (.bool true) ∧ Below w.heap.size w w' := by
  cases hsm : small8 b p s n f
  · go_enter Tryz.func5, Tryz.ntmps5
    go_wp2_with fail
    refine (small8_any _ _ _ _ _ _).mono ?_
    rintro e w1 ⟨rfl, q1⟩
    rw [hsm]
    go_wp2_with fail
    go_ret
    exact ⟨rfl, btrans (below_one _ _) q1⟩
  obtain ⟨G, rfl, rfl, rfl, rfl, rfl, hb16, hp8, hR32⟩ := geo8_ex hsm
  have HSM : Hid (small8 G.b G.p G.s G.n G.f = true) := hsm
  clear hsm
  have hlm : len ≤ maxLen := Nat.le_trans hr.hcap hr.hmax
  have hroom := refRoom_any G.b G.p G.f G.s G.n G.R G.ok.hR G.ok.hs.2 (by have := G.ok.hn; omega)
  by_cases hcd : 0 ≤ x ∧ x < G.b
  case neg =>
    go_enter Tryz.func5, Tryz.ntmps5
    go_wp2_with fail
    refine (small8_any _ _ _ _ _ _).mono ?_
    rintro e w1 ⟨rfl, q1⟩
    rw [HSM.out]
    obtain ⟨_, c0, c1, c2, c3, c4⟩ := (gbox_new w 23 G.b G.p G.s G.n G.f).below q1 (Nat.le_refl _)
    go_wp2_with fail
    all_goals first | (exfalso; omega) | (go_ret; exact ⟨rfl, btrans (below_one _ _) q1⟩)
  have hx0 : ¬ x < 0 := by omega
  have hx1 : ¬ G.b ≤ x := by omega
  by_cases hl : len = G.R
  case neg =>
    have hq : (((len : Nat) : Int) != (G.R : Int)) = true := by simp; omega
    go_enter Tryz.func5, Tryz.ntmps5
    go_wp2_with fail
    refine (small8_any _ _ _ _ _ _).mono ?_
    rintro e w1 ⟨rfl, q1⟩
    rw [HSM.out]
    obtain ⟨_, c0, c1, c2, c3, c4⟩ := (gbox_new w 23 G.b G.p G.s G.n G.f).below q1 (Nat.le_refl _)
    go_wp2_with fail
    clear c0 c1 c2 c3 c4
    refine (hroom _).mono ?_
    rintro e w2 ⟨rfl, q2⟩
    go_wp2_with fail
    go_ret
    exact ⟨rfl, btrans (btrans (below_one _ _) q1) q2⟩
  subst hl
  have hL := G.ok.L2
  have hLm : G.L ≤ maxLen := by unfold maxLen; omega
  go_enter Tryz.func5, Tryz.ntmps5
  go_wp2_with fail
  have q0 := below_one w (.cells #[.int .i64 G.b, .int .i64 G.p, .int .i64 G.s, .int .i64 G.n, .int .i64 G.f] 23)
  have gb := gbox_new w 23 G.b G.p G.s G.n G.f
  replace hr := hr.below q0 (Nat.le_refl _)
  have HQ0 : Hid (Below w.heap.size w (w.alloc (.cells #[.int .i64 G.b, .int .i64 G.p, .int .i64 G.s, .int .i64 G.n, .int .i64 G.f] 23))) := q0
  clear q0
  generalize hg0 : w.heap.size = g at gb ⊢
  have HG0 : Hid (w.heap.size = g) := hg0
  clear hg0
  generalize w.alloc (.cells #[.int .i64 G.b, .int .i64 G.p, .int .i64 G.s, .int .i64 G.n, .int .i64 G.f] 23) = W at *
  refine (small8_any _ _ _ _ _ _).mono ?_
  rintro e w1 ⟨rfl, q1⟩
  rw [HSM.out]
  have gb1 := gb.below q1 (Nat.le_refl _)
  obtain ⟨_, c0, c1, c2, c3, c4⟩ := gb1
  go_wp2_with fail
  clear c0 c1 c2 c3 c4
  refine (hroom _).mono ?_
  rintro e w2 ⟨rfl, q2⟩
  replace q1 := btrans q1 q2
  clear q2
  have gb1 := gb.below q1 (Nat.le_refl _)
  obtain ⟨_, c0, c1, c2, c3, c4⟩ := gb1
  go_wp2_with fail
  clear c0 c1 c2 c3 c4
  refine (chipNew_nil G _).mono ?_
  rintro e w3 ⟨c, rfl, hnew⟩
  obtain ⟨B, F, rfl, h3⟩ := newChip_here q1 hnew
  clear q1 hnew hroom
  go_wp2_with fail
  refine (drvNew_any B.c _).mono ?_
  rintro e w4 ⟨d, hd, rfl, db, q4⟩
  have h4 : DHere W G B F 0 (CS.fresh G.L [] 0) d w4 := dhere_new h3 q4 db hd
  clear h3 q4 db hd
  go_wp2_with fail
  have hw1 : CS.doWeak G (CS.fresh G.L [] 0) x = (CS.fresh G.L [] 0).weaken x := by unfold CS.doWeak; rw [if_pos (inB0_of hcd)]
  obtain ⟨S1, hS1⟩ : ∃ S1, S1 = (CS.fresh G.L [] 0).weaken x := ⟨_, rfl⟩
  rw [← hS1] at hw1
  have HU1 : Hid (S1.up = true) := by show _ = _; rw [hS1]; rfl
  have HB1 : Hid (∀ b, S1.bd b = false) := fun b => by rw [hS1]; rfl
  have HN1 : Hid (S1.nx x = 0) := by show _ = _; rw [hS1]; rfl
  have HA1 : Hid (S1.ah = 0) := by show _ = _; rw [hS1]; rfl
  have HK1 : Hid (S1.wk x = true) := by show _ = _; rw [hS1]; show (if x = x then true else _) = true; rw [if_pos rfl]
  clear hS1
  have hp2 := G.ok.hp
  have HB2 : Hid (∀ b, (S1.mark x).bd b = decide (b = x)) := fun b => by
    show (if b = x then true else S1.bd b) = _
    by_cases hb : b = x
    · rw [if_pos hb, decide_eq_true hb]
    · rw [if_neg hb, decide_eq_false hb]; exact HB1.out b
  have HUS : Hid (∀ o, o = true → (S1.mark x).use G x o = 73) := fun o ho => use_bad (G := G) HU1.out (inB0_of hcd) ho (by rw [HB2.out, decide_eq_true rfl])
  refine (chipWeak_any x hx w4 h4.chip (by decide)).mono ?_
  rintro e w5 ⟨⟨r, rfl⟩, d5⟩
  rw [hw1] at d5
  obtain ⟨F5, h5, o5⟩ := h4.does d5
  have r5 := h5.old hr
  clear o5 d5 h4 hw1
  go_wp2_with fail
  refine (drvWrite_yes x 0 hx (i64_small (by decide)) a cap z w5 h5.box h5.off h5.chip r5.row hz (by decide) (inB0_of (by omega)) (use_of HU1.out (inB0_of hcd) rfl (HB1.out x))).mono ?_
  rintro e w6 ⟨y, hy, hd⟩
  obtain ⟨rfl, d6⟩ := Does.eq (write_weak HU1.out hcd (by omega) HN1.out.symm HA1.out HK1.out (by rw [hy.len, G.ok.hL])) hd
  obtain ⟨F6, h6, o6⟩ := h5.does d6
  clear o6 d6 h5 r5 hd hy
  go_wp2_with fail
  refine (drvWrite_no x 0 hx a G.R cap hlm w6 h6.box h6.chip 73 (by decide) (HUS.out _ (by rw [inB0_of (by omega), decide_eq_true rfl]; rfl))).mono ?_
  rintro e w7 ⟨rfl, q7⟩
  have h7 := h6.below q7
  clear h6 q7
  have her := drvErase_any x hx w7 h7.box h7.off h7.chip (by decide)
  rw [eraseD_bad (S := S1.mark x) HU1.out hcd (by rw [HB2.out, decide_eq_true rfl])] at her
  go_wp2_with fail
  refine her.mono ?_
  rintro e w8 ⟨rfl, d8⟩
  obtain ⟨F8, h8, o8⟩ := h7.does d8
  clear o8 d8 h7 her
  go_wp2_with fail
  refine (drvRead_no x 0 hx w8 h8.box h8.chip 73 (by decide) (HUS.out _ (inB0_of (by omega)))).mono ?_
  rintro e w9 ⟨rfl, q9⟩
  have h9 := h8.below q9
  clear h8 q9
  go_wp2_with fail
  refine (drvGood_any w9 h9.box h9.chip).mono ?_
  rintro e w10 ⟨v, rfl, own, q10⟩
  obtain ⟨hno, hlen⟩ := goodTo_but (S := S1.mark x) HU1.out HB2.out G.b.toNat
  rw [if_pos (by omega)] at hlen
  have hb1 := G.ok.hb
  have hlb : ((S1.mark x).goodTo G.b.toNat).length ≤ 256 := by omega
  have HLEN : Hid ((((S1.mark x).goodTo G.b.toNat).length : Int) = G.b - 1) := by show _ = _; omega
  have HNO : Hid (∀ i, i < ((S1.mark x).goodTo G.b.toNat).length → ((S1.mark x).goodTo G.b.toNat)[i]?.getD 0 ≠ x) := fun i hi e => by have hm := mem_getD _ i hi; rw [e] at hm; exact hno hm
  clear hno hlen
  have h10 := h9.below q10
  clear q10 h9
  generalize (S1.mark x).goodTo G.b.toNat = l at *
  obtain ⟨al, cl, rfl, rl⟩ := row_of_owns own
  clear own
  generalize hml : l.length = m at *
  clear hml HUS HB2 HB1 HU1 HN1 HA1 HK1
  go_wp2_with fail
  go_loop [18] (fun v => ∃ k : Nat, k ≤ m ∧ v = .int .i64 k) (fun v => m - (RowKit.intOf v).toNat)
  case atStart => exact ⟨0, Nat.zero_le _, rfl⟩
  case round =>
    obtain ⟨k, hk, rfl⟩ := hrel
    by_cases hlt : k < m
    · have hkk : (k : Int) < (m : Int) := by omega
      obtain ⟨bl, off, rfl, hbs, hcell⟩ := rl.hcell (by omega)
      have hc1 := hcell k hlt
      have hne : (l[k]?.getD 0 == x) = false := by simpa using HNO.out k hlt
      clear hcell
      generalize l[k]?.getD 0 = p at *
      go_wp2_with fail
      go_round
      case rel => exact ⟨k + 1, by omega, by go_num⟩
      case measure => simp [RowKit.intOf]; omega
    · have hkk : ¬ (k : Int) < (m : Int) := by omega
      obtain ⟨_, c0, c1, c2, c3, c4⟩ := gb.below h10.bel (Nat.le_refl _)
      go_wp2_with fail
      clear c0 c1 c2 c3 c4
      refine (awake8_any _).mono ?_
      rintro e w11 ⟨rfl, q11⟩
      have h11 := h10.below q11
      clear h10 q11
      obtain ⟨_, c0, c1, c2, c3, c4⟩ := gb.below h11.bel (Nat.le_refl _)
      have hq : ((m : Int) == G.b - 1) = true := by simp [HLEN.out]
      go_wp2_with fail
      go_ret
      exact ⟨rfl, btrans HQ0.out h11.bel⟩

set_option maxHeartbeats 3200000 in
set_option maxRecDepth 100000 in
theorem walk_driveOthers (b p s n f : Int) (x y : Int) (a : Option Addr) (len cap : Nat) (z : List Int) (w : World) (hx : I64 x) (hy : I64 y) (hr : Row .u8 w a len cap z) (hz : IsB z) :
    Calls Tryz.prog 8 #[.agg #[.int .i64 b, .int .i64 p, .int .i64 s, .int .i64 n, .int .i64 f], .int .i64 x, .int .i64 y, .slice a len cap] w fun e w' => e = .returned (.bool true) ∧ Below w.heap.size w w' := by
  cases hsm : small8 b p s n f
  · go_enter Tryz.func8, Tryz.ntmps8
    go_wp2_with fail
    refine (small8_any _ _ _ _ _ _).mono ?_
    rintro e w1 ⟨rfl, q1⟩
    rw [hsm]
    go_wp2_with fail
    go_ret
    exact ⟨rfl, btrans (below_one _ _) q1⟩
  obtain ⟨G, rfl, rfl, rfl, rfl, rfl, hb16, hp8, hR32⟩ := geo8_ex hsm
  have HSM : Hid (small8 G.b G.p G.s G.n G.f = true) := hsm
  clear hsm
  have hlm : len ≤ maxLen := Nat.le_trans hr.hcap hr.hmax
  have hroom := refRoom_any G.b G.p G.f G.s G.n G.R G.ok.hR G.ok.hs.2 (by have := G.ok.hn; omega)
  by_cases hcd : (0 ≤ x ∧ x < G.b) ∧ (0 ≤ y ∧ y < G.b) ∧ x ≠ y
  case neg =>
    go_enter Tryz.func8, Tryz.ntmps8
    go_wp2_with fail
    refine (small8_any _ _ _ _ _ _).mono ?_
    rintro e w1 ⟨rfl, q1⟩
    rw [HSM.out]
    obtain ⟨_, c0, c1, c2, c3, c4⟩ := (gbox_new w 23 G.b G.p G.s G.n G.f).below q1 (Nat.le_refl _)
    go_wp2_with fail
    all_goals first | (exfalso; omega) | (go_ret; exact ⟨rfl, btrans (below_one _ _) q1⟩)
  obtain ⟨hcx, hcy, hxy⟩ := hcd
  have hx0 : ¬ x < 0 := by omega
  have hx1 : ¬ G.b ≤ x := by omega
  have hy0 : ¬ y < 0 := by omega
  have hy1 : ¬ G.b ≤ y := by omega
  have hxq : (x == y) = false := by simpa using hxy
  by_cases hl : len = G.R
  case neg =>
    have hq : (((len : Nat) : Int) != (G.R : Int)) = true := by simp; omega
    go_enter Tryz.func8, Tryz.ntmps8
    go_wp2_with fail
    refine (small8_any _ _ _ _ _ _).mono ?_
    rintro e w1 ⟨rfl, q1⟩
    rw [HSM.out]
    obtain ⟨_, c0, c1, c2, c3, c4⟩ := (gbox_new w 23 G.b G.p G.s G.n G.f).below q1 (Nat.le_refl _)
    go_wp2_with fail
    clear c0 c1 c2 c3 c4
    refine (hroom _).mono ?_
    rintro e w2 ⟨rfl, q2⟩
    go_wp2_with fail
    go_ret
    exact ⟨rfl, btrans (btrans (below_one _ _) q1) q2⟩
  subst hl
  have hL := G.ok.L2
  have hLm : G.L ≤ maxLen := by unfold maxLen; omega
  go_enter Tryz.func8, Tryz.ntmps8
  go_wp2_with fail
  have q0 := below_one w (.cells #[.int .i64 G.b, .int .i64 G.p, .int .i64 G.s, .int .i64 G.n, .int .i64 G.f] 23)
  have gb := gbox_new w 23 G.b G.p G.s G.n G.f
  replace hr := hr.below q0 (Nat.le_refl _)
  have HQ0 : Hid (Below w.heap.size w (w.alloc (.cells #[.int .i64 G.b, .int .i64 G.p, .int .i64 G.s, .int .i64 G.n, .int .i64 G.f] 23))) := q0
  clear q0
  generalize hg0 : w.heap.size = g at gb ⊢
  have HG0 : Hid (w.heap.size = g) := hg0
  clear hg0
  generalize w.alloc (.cells #[.int .i64 G.b, .int .i64 G.p, .int .i64 G.s, .int .i64 G.n, .int .i64 G.f] 23) = W at *
  refine (small8_any _ _ _ _ _ _).mono ?_
  rintro e w1 ⟨rfl, q1⟩
  rw [HSM.out]
  have gb1 := gb.below q1 (Nat.le_refl _)
  obtain ⟨_, c0, c1, c2, c3, c4⟩ := gb1
  go_wp2_with fail
  clear c0 c1 c2 c3 c4
  refine (hroom _).mono ?_
  rintro e w2 ⟨rfl, q2⟩
  replace q1 := btrans q1 q2
  clear q2
  have gb1 := gb.below q1 (Nat.le_refl _)
  obtain ⟨_, c0, c1, c2, c3, c4⟩ := gb1
  go_wp2_with fail
  clear c0 c1 c2 c3 c4
  refine (chipNew_nil G _).mono ?_
  rintro e w3 ⟨c, rfl, hnew⟩
  obtain ⟨B, F, rfl, h3⟩ := newChip_here q1 hnew
  clear q1 hnew hroom
  go_wp2_with fail
  refine (drvNew_any B.c _).mono ?_
  rintro e w4 ⟨d, hd, rfl, db, q4⟩
  have h4 : DHere W G B F 0 (CS.fresh G.L [] 0) d w4 := dhere_new h3 q4 db hd
  clear h3 q4 db hd
  go_wp2_with fail
  have hp2 := G.ok.hp
  have r4 := h4.old hr
  obtain ⟨S0, hS0⟩ : ∃ S0, S0 = CS.fresh G.L [] 0 := ⟨_, rfl⟩
  have HU0 : Hid (S0.up = true) := by show _ = _; rw [hS0]; rfl
  have HB0 : Hid (∀ b, S0.bd b = false) := fun b => by rw [hS0]; rfl
  have HN0 : Hid (∀ b, S0.nx b = 0) := fun b => by rw [hS0]; rfl
  have HA0 : Hid (S0.ah = 0) := by show _ = _; rw [hS0]; rfl
  have HK0 : Hid (∀ b, S0.wk b = false) := fun b => by rw [hS0]; rfl
  have HW0 : Hid (∀ b p, S0.wr b p = fun _ => false) := fun b p => by rw [hS0]; rfl
  replace h4 := h4.same hS0.symm
  clear hS0
  refine (drvWrite_yes x 0 hx (i64_small (by decide)) a cap z w4 h4.box h4.off h4.chip r4.row hz (by decide) (inB0_of (by omega)) (use_of HU0.out (inB0_of hcx) rfl (HB0.out x))).mono ?_
  rintro e w5 ⟨z1, hz1, hd⟩
  obtain ⟨rfl, d5⟩ := Does.eq (write_ok HU0.out hcx (by omega) (HN0.out x).symm HA0.out (HK0.out x) (by rw [hz1.len, G.ok.hL])) hd
  obtain ⟨F5, h5, o5⟩ := h4.does d5
  have r5 := h5.old hr
  clear o5 d5 h4 r4 hd hz1
  go_wp2_with fail
  refine (drvWrite_yes y 0 hy (i64_small (by decide)) a cap z w5 h5.box h5.off h5.chip r5.row hz (by decide) (inB0_of (by omega)) (use_of HU0.out (inB0_of hcy) rfl (HB0.out y))).mono ?_
  rintro e w6 ⟨z2, hz2, hd⟩
  obtain ⟨rfl, d6⟩ := Does.eq (write_ok (S := S0.lay x 0 z1) HU0.out hcy (by omega) (by rw [lay_nx_other _ _ _ _ (Ne.symm hxy)]; exact (HN0.out y).symm) HA0.out (HK0.out y) (by rw [hz2.len, G.ok.hL])) hd
  obtain ⟨F6, h6, o6⟩ := h5.does d6
  clear o6 d6 h5 r5 hd
  have her := drvErase_any x hx w6 h6.box h6.off h6.chip (by decide)
  rw [eraseD_ok (S := (S0.lay x 0 z1).lay y 0 z2) HU0.out hcx HA0.out (HK0.out x) (HB0.out x)] at her
  go_wp2_with fail
  refine her.mono ?_
  rintro e w7 ⟨rfl, d7⟩
  obtain ⟨F7, h7, o7⟩ := h6.does d7
  clear o7 d7 h6 her
  have e1 : ((((S0.lay x 0 z1).lay y 0 z2).wipe G.L x G.p.toNat).next0 x).pg y 0 = z2 := by
    rw [show ((((S0.lay x 0 z1).lay y 0 z2).wipe G.L x G.p.toNat).next0 x).pg = (((S0.lay x 0 z1).lay y 0 z2).wipe G.L x G.p.toNat).pg from rfl, (wipe_other _ _ _ _ (Ne.symm hxy) 0).1, lay_pg]
  have e2 : ((((S0.lay x 0 z1).lay y 0 z2).wipe G.L x G.p.toNat).next0 x).wr y 0 = fun _ => false := by
    rw [show ((((S0.lay x 0 z1).lay y 0 z2).wipe G.L x G.p.toNat).next0 x).wr = (((S0.lay x 0 z1).lay y 0 z2).wipe G.L x G.p.toNat).wr from rfl, (wipe_other _ _ _ _ (Ne.symm hxy) 0).2]
    exact HW0.out y 0
  have e3 : ((((S0.lay x 0 z1).lay y 0 z2).wipe G.L x G.p.toNat).next0 x).pg x 0 = List.replicate G.L 255 := wipe_pg _ _ _ _ (by omega)
  have e4 : ((((S0.lay x 0 z1).lay y 0 z2).wipe G.L x G.p.toNat).next0 x).wr x 0 = fun _ => false := wipe_wr ((S0.lay x 0 z1).lay y 0 z2) G.L x G.p.toNat (by omega)
  have HU7 : Hid (((((S0.lay x 0 z1).lay y 0 z2).wipe G.L x G.p.toNat).next0 x).up = true) := HU0.out
  have HB7 : Hid (∀ b, ((((S0.lay x 0 z1).lay y 0 z2).wipe G.L x G.p.toNat).next0 x).bd b = false) := HB0.out
  clear HU0 HB0 HN0 HA0 HK0 HW0
  generalize (((S0.lay x 0 z1).lay y 0 z2).wipe G.L x G.p.toNat).next0 x = S7 at *
  go_wp2_with fail
  refine (drvRead_yes y 0 hy (i64_small (by decide)) w7 h7.box h7.chip (inB0_of (by omega)) (use_of HU7.out (inB0_of hcy) rfl (HB7.out y))).mono ?_
  rw [e1, e2, readZ_none]
  rintro e w8 ⟨X, k, er, ao, co, ⟨hX, _, _⟩, rfl, rX, q8⟩
  obtain ⟨rfl, rfl, rfl⟩ := isRead_clean hz2 hz hr.hlen hX
  have h8 := h7.below q8
  clear q8 h7 hX e1 e2 hz2
  go_wp2_with fail
  refine (drvRead_yes x 0 hx (i64_small (by decide)) w8 h8.box h8.chip (inB0_of (by omega)) (use_of HU7.out (inB0_of hcx) rfl (HB7.out x))).mono ?_
  rw [e3, e4, readZ_none]
  rintro e w9 ⟨Y, k, er, ap, cp, ⟨hY, _, _⟩, rfl, rY, q9⟩
  obtain ⟨rfl, rfl, rfl⟩ := isRead_ff hY
  have h9 := h8.below q9
  have rX9 := rX.below q9 (Nat.le_refl _)
  clear q9 h8 hY e3 e4 rY rX
  go_wp2_with fail
  refine (awake8_any _).mono ?_
  rintro e w10 ⟨rfl, q10⟩
  have h10 := h9.below q10
  have k1 := conv_row (P := Tryz.prog) Tryz.underlying38 Tryz.underlying5 Tryz.underlying9 (rX9.below q10 (Nat.le_refl _))
  have k2 := conv_row (P := Tryz.prog) Tryz.underlying38 Tryz.underlying5 Tryz.underlying9 (h10.old hr).row
  rw [hr.hlen] at k1 ⊢
  go_wp2_with fail
  go_ret
  exact ⟨rfl, btrans HQ0.out h10.bel⟩

set_option maxHeartbeats 3200000 in
set_option maxRecDepth 100000 in
theorem walk_driveTorn (b p s n f : Int) (a : Option Addr) (len cap : Nat) (z : List Int) (keep : Int) (w : World) (hr : Row .u8 w a len cap z) (hz : IsB z) (hk64 : I64 keep) :
    Calls Tryz.prog 7 #[.agg #[.int .i64 b, .int .i64 p, .int .i64 s, .int .i64 n, .int .i64 f], .slice a len cap, .int .i64 keep] w fun e w' => e = .returned (.bool true) ∧ Below w.heap.size w w' := by
  cases hsm : small8 b p s n f
  · go_enter Tryz.func7, Tryz.ntmps7
    go_wp2_with fail
    refine (small8_any _ _ _ _ _ _).mono ?_
    rintro e w1 ⟨rfl, q1⟩
    rw [hsm]
    go_wp2_with fail
    go_ret
    exact ⟨rfl, btrans (below_one _ _) q1⟩
  obtain ⟨G, rfl, rfl, rfl, rfl, rfl, hb16, hp8, hR32⟩ := geo8_ex hsm
  have HSM : Hid (small8 G.b G.p G.s G.n G.f = true) := hsm
  clear hsm
  have hlm : len ≤ maxLen := Nat.le_trans hr.hcap hr.hmax
  have hroom := refRoom_any G.b G.p G.f G.s G.n G.R G.ok.hR G.ok.hs.2 (by have := G.ok.hn; omega)
  by_cases hl : len = G.R
  case neg =>
    have hq : (((len : Nat) : Int) != (G.R : Int)) = true := by simp; omega
    go_enter Tryz.func7, Tryz.ntmps7
    go_wp2_with fail
    refine (small8_any _ _ _ _ _ _).mono ?_
    rintro e w1 ⟨rfl, q1⟩
    rw [HSM.out]
    obtain ⟨_, c0, c1, c2, c3, c4⟩ := (gbox_new w 23 G.b G.p G.s G.n G.f).below q1 (Nat.le_refl _)
    go_wp2_with fail
    clear c0 c1 c2 c3 c4
    refine (hroom _).mono ?_
    rintro e w2 ⟨rfl, q2⟩
    go_wp2_with fail
    go_ret
    exact ⟨rfl, btrans (btrans (below_one _ _) q1) q2⟩
  subst hl
  have hL := G.ok.L2
  have hLm : G.L ≤ maxLen := by unfold maxLen; omega
  have hraw := refRaw_any G.ok
  by_cases hk : keep < (G.L : Int)
  case neg =>
    have hk2 : (G.L : Int) ≤ keep := by omega
    go_enter Tryz.func7, Tryz.ntmps7
    go_wp2_with fail
    refine (small8_any _ _ _ _ _ _).mono ?_
    rintro e w1 ⟨rfl, q1⟩
    rw [HSM.out]
    obtain ⟨_, c0, c1, c2, c3, c4⟩ := (gbox_new w 23 G.b G.p G.s G.n G.f).below q1 (Nat.le_refl _)
    go_wp2_with fail
    clear c0 c1 c2 c3 c4
    refine (hroom _).mono ?_
    rintro e w2 ⟨rfl, q2⟩
    obtain ⟨_, c0, c1, c2, c3, c4⟩ := ((gbox_new w 23 G.b G.p G.s G.n G.f).below q1 (Nat.le_refl _)).below q2 (Nat.le_refl _)
    go_wp2_with fail
    clear c0 c1 c2 c3 c4
    refine (hraw _).mono ?_
    rintro e w3 ⟨rfl, q3⟩
    go_wp2_with fail
    go_ret
    exact ⟨rfl, btrans (btrans (btrans (below_one _ _) q1) q2) q3⟩
  go_enter Tryz.func7, Tryz.ntmps7
  go_wp2_with fail
  have q0 := below_one w (.cells #[.int .i64 G.b, .int .i64 G.p, .int .i64 G.s, .int .i64 G.n, .int .i64 G.f] 23)
  have gb := gbox_new w 23 G.b G.p G.s G.n G.f
  replace hr := hr.below q0 (Nat.le_refl _)
  have HQ0 : Hid (Below w.heap.size w (w.alloc (.cells #[.int .i64 G.b, .int .i64 G.p, .int .i64 G.s, .int .i64 G.n, .int .i64 G.f] 23))) := q0
  clear q0
  generalize hg0 : w.heap.size = g at gb ⊢
  have HG0 : Hid (w.heap.size = g) := hg0
  clear hg0
  generalize w.alloc (.cells #[.int .i64 G.b, .int .i64 G.p, .int .i64 G.s, .int .i64 G.n, .int .i64 G.f] 23) = W at *
  refine (small8_any _ _ _ _ _ _).mono ?_
  rintro e w1 ⟨rfl, q1⟩
  rw [HSM.out]
  have gb1 := gb.below q1 (Nat.le_refl _)
  obtain ⟨_, c0, c1, c2, c3, c4⟩ := gb1
  go_wp2_with fail
  clear c0 c1 c2 c3 c4
  refine (hroom _).mono ?_
  rintro e w2 ⟨rfl, q2⟩
  replace q1 := btrans q1 q2
  clear q2
  have gb1 := gb.below q1 (Nat.le_refl _)
  obtain ⟨_, c0, c1, c2, c3, c4⟩ := gb1
  go_wp2_with fail
  clear c0 c1 c2 c3 c4
  refine (hraw _).mono ?_
  rintro e w2b ⟨rfl, q2⟩
  replace q1 := btrans q1 q2
  clear q2
  have gb1 := gb.below q1 (Nat.le_refl _)
  obtain ⟨_, c0, c1, c2, c3, c4⟩ := gb1
  go_wp2_with fail
  clear c0 c1 c2 c3 c4 hraw
  refine (chipNew_nil G _).mono ?_
  rintro e w3 ⟨c, rfl, hnew⟩
  obtain ⟨B, F, rfl, h3⟩ := newChip_here q1 hnew
  clear q1 hnew hroom
  go_wp2_with fail
  refine (drvNew_any B.c _).mono ?_
  rintro e w4 ⟨d, hd, rfl, db, q4⟩
  have h4 : DHere W G B F 0 (CS.fresh G.L [] 0) d w4 := dhere_new h3 q4 db hd
  clear h3 q4 db hd
  go_wp2_with fail
  have hp2 := G.ok.hp
  have hb2 := G.ok.hb
  have hc0 : (0 : Int) ≤ 0 ∧ (0 : Int) < G.b := by omega
  obtain ⟨S0, hS0⟩ : ∃ S0, S0 = CS.fresh G.L [] 0 := ⟨_, rfl⟩
  have HU0 : Hid (S0.up = true) := by show _ = _; rw [hS0]; rfl
  have HB0 : Hid (∀ b, S0.bd b = false) := fun b => by rw [hS0]; rfl
  have HN0 : Hid (∀ b, S0.nx b = 0) := fun b => by rw [hS0]; rfl
  have HK0 : Hid (∀ b, S0.wk b = false) := fun b => by rw [hS0]; rfl
  have HW0 : Hid (∀ b p, S0.wr b p = fun _ => false) := fun b p => by rw [hS0]; rfl
  replace h4 := h4.same hS0.symm
  clear hS0
  refine (chipArm_any 1 keep (i64_small (by decide)) hk64 w4 h4.chip).mono ?_
  rintro e w5 ⟨⟨r, rfl⟩, hc5, t5⟩
  obtain ⟨h5, o5⟩ := h4.turned hc5 t5
  replace h5 := h5.same (S' := { S0 with ah := 1, ke := keep }) (by rfl)
  have r5 := h5.old hr
  clear o5 t5 hc5 h4
  go_wp2_with fail
  refine (drvWrite_yes 0 0 (i64_small (by decide)) (i64_small (by decide)) a cap z w5 h5.box h5.off h5.chip r5.row hz (by decide) (inB0_of (by omega)) (use_of HU0.out (inB0_of hc0) rfl (HB0.out 0))).mono ?_
  rintro e w6 ⟨y, hy, hd⟩
  have hyl : y.length = G.L := by rw [hy.len, G.ok.hL]
  obtain ⟨rfl, d6⟩ := Does.eq (write_cut (S := { S0 with ah := 1, ke := keep }) HU0.out hc0 (by omega) (HN0.out 0).symm rfl hyl) hd
  rw [counted_one (S := { S0 with ah := 1, ke := keep }) rfl] at d6
  have HT : Hid ((padF G.L (y.take (keptN keep y.length)))[G.L - 1]?.getD 0 = 255) := pad_last (by rw [List.length_take, hyl]; unfold keptN; omega)
  have d6' : Does G B F 4 w5 (CS.lay { S0 with ah := 0, up := false, ke := keep } 0 0 (padF G.L (y.take (keptN keep y.length)))) w6 := d6
  obtain ⟨F6, h6, o6⟩ := h5.does d6'
  clear o6 d6 d6' h5 r5 hd hy hyl
  generalize padF G.L (y.take (keptN keep y.length)) = T at *
  go_wp2_with fail
  refine (chipOn_any w6 h6.chip).mono ?_
  rintro e w7 ⟨⟨r7, rfl⟩, hc7, t7⟩
  obtain ⟨h7, o7⟩ := h6.turned hc7 t7
  obtain ⟨S7, hS7⟩ : ∃ S7, S7 = ({ CS.lay { S0 with ah := 0, up := false, ke := keep } 0 0 T with up := true } : CS) := ⟨_, rfl⟩
  replace h7 := h7.same hS7.symm
  have HU7 : Hid (S7.up = true) := by show _ = _; rw [hS7]
  have HB7 : Hid (∀ b, S7.bd b = false) := fun b => by rw [hS7]; exact HB0.out b
  have HK7 : Hid (∀ b, S7.wk b = false) := fun b => by rw [hS7]; exact HK0.out b
  have HA7 : Hid (S7.ah = 0) := by show _ = _; rw [hS7]; rfl
  have HP7 : Hid (S7.pg 0 0 = T) := by show _ = _; rw [hS7]; exact lay_pg ({ S0 with ah := 0, up := false, ke := keep } : CS) 0 0 T
  have HW7 : Hid (∀ b p, S7.wr b p = fun _ => false) := fun b p => by rw [hS7]; exact HW0.out b p
  clear o7 t7 hc7 h6 hS7 HU0 HB0 HN0 HK0 HW0
  have HM7 : Hid (S7.wholeD G 0 1 = (false, 0)) := by
    show _ = _
    unfold CS.wholeD
    rw [rdy_of HU7.out (inB0_of hc0) (by unfold within0; exact decide_eq_true (by omega)), if_neg (by simp), HB7.out]
    rw [show (1 : Int).toNat = 0 + 1 from rfl, markTo_no (k := 0) (by omega) (by unfold CS.raw; rw [show ((0 : Nat) : Int) = 0 from rfl, HP7.out, HW7.out, readZ_none, HT.out]; decide)]
    rfl
  go_wp2_with fail
  refine (drvRead_yes 0 0 (i64_small (by decide)) (i64_small (by decide)) w7 h7.box h7.chip (inB0_of (by omega)) (use_of HU7.out (inB0_of hc0) rfl (HB7.out 0))).mono ?_
  rw [HP7.out, HW7.out, readZ_none]
  rintro e w8 ⟨X, k, er, ao, co, ⟨hX, _, _⟩, rfl, rX, q8⟩
  obtain ⟨rfl, rfl, her⟩ := isRead_torn HT.out hX
  have h8 := h7.below q8
  clear q8 h7 hX rX
  have hwh := drvWhole_any 0 1 (i64_small (by decide)) w8 h8.box h8.chip
  rw [HM7.out] at hwh
  have hq1 : ((er != 60) && (er != 61)) = false := by rcases her with e | e <;> rw [e] <;> rfl
  have hdis : (er != 60) = false ∨ ((er != 60) = true ∧ (er != 61) = false) := by rcases her with e | e <;> subst e <;> simp
  clear her hq1
  go_wp2_with fail
  refine hwh.mono ?_
  rintro e w9 ⟨rfl, q9⟩
  have h9 := h8.below q9
  clear q9 h8 hwh HM7 HT HP7
  have ers := drvErase_any 0 (i64_small (by decide)) w9 h9.box h9.off h9.chip (by decide)
  rw [eraseD_ok HU7.out hc0 HA7.out (HK7.out 0) (HB7.out 0)] at ers
  have HU10 : Hid (((S7.wipe G.L 0 G.p.toNat).next0 0).up = true) := HU7.out
  have HB10 : Hid (∀ b, ((S7.wipe G.L 0 G.p.toNat).next0 0).bd b = false) := HB7.out
  have HK10 : Hid (∀ b, ((S7.wipe G.L 0 G.p.toNat).next0 0).wk b = false) := HK7.out
  have HA10 : Hid (((S7.wipe G.L 0 G.p.toNat).next0 0).ah = 0) := HA7.out
  have HN10 : Hid (((S7.wipe G.L 0 G.p.toNat).next0 0).nx 0 = 0) := next0_nx _ _
  have HW10 : Hid (((S7.wipe G.L 0 G.p.toNat).next0 0).wr 0 0 = fun _ => false) := wipe_wr S7 G.L 0 G.p.toNat (by omega)
  generalize (S7.wipe G.L 0 G.p.toNat).next0 0 = S10 at *
  rcases hdis with h60 | ⟨h60, h61⟩
  all_goals
    go_wp2_with fail
    refine ers.mono ?_
    rintro e w10 ⟨rfl, d10⟩
    obtain ⟨F10, h10, o10⟩ := h9.does d10
    have r10 := h10.old hr
    go_wp2_with fail
    refine (drvWrite_yes 0 0 (i64_small (by decide)) (i64_small (by decide)) a cap z w10 h10.box h10.off h10.chip r10.row hz (by decide) (inB0_of (by omega)) (use_of HU10.out (inB0_of hc0) rfl (HB10.out 0))).mono ?_
    rintro e w11 ⟨y2, hy2, hd⟩
    obtain ⟨rfl, d11⟩ := Does.eq (write_ok HU10.out hc0 (by omega) HN10.out.symm HA10.out (HK10.out 0) (by rw [hy2.len, G.ok.hL])) hd
    obtain ⟨F11, h11, o11⟩ := h10.does d11
    go_wp2_with fail
    refine (drvRead_yes 0 0 (i64_small (by decide)) (i64_small (by decide)) w11 h11.box h11.chip (inB0_of (by omega)) (use_of HU10.out (inB0_of hc0) rfl (HB10.out 0))).mono ?_
    rw [lay_pg, show (S10.lay 0 0 y2).wr 0 0 = fun _ => false from HW10.out, readZ_none]
    rintro e w12 ⟨X, k, er2, ao2, co2, ⟨hX, _, _⟩, rfl, rX, q12⟩
    obtain ⟨rfl, rfl, rfl⟩ := isRead_clean hy2 hz hr.hlen hX
    have h12 := h11.below q12
    go_wp2_with fail
    refine (awake8_any _).mono ?_
    rintro e w13 ⟨rfl, q13⟩
    have h13 := h12.below q13
    have k1 := conv_row (P := Tryz.prog) Tryz.underlying38 Tryz.underlying5 Tryz.underlying9 (rX.below q13 (Nat.le_refl _))
    have k2 := conv_row (P := Tryz.prog) Tryz.underlying38 Tryz.underlying5 Tryz.underlying9 (h13.old hr).row
    rw [hr.hlen] at k1 ⊢
    go_wp2_with fail
    go_ret
    exact ⟨rfl, btrans HQ0.out h13.bel⟩
end Go.Proofs.YtggpgdaacbmmdaaGreat
