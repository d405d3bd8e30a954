/-
  Layer 12's laws: the walks of ScrubMoves, ScrubKeeps.
-/
import Derived.Test.YtgamakejaknagaaGreatScrubFill
import Derived.Test.YtgamakejaknagaaGreatScrubAwake
namespace Go.Proofs.YtgamakejaknagaaGreat
open Go.RowKit Go.Maps
set_option linter.unusedVariables false
set_option maxRecDepth 8192

theorem wrow_nil (w : World) : WRow w none 0 0 (fun _ => ⟨0, 0, 0, 0⟩) := ⟨Nat.le_refl _, Nat.zero_le _, fun h => absurd h (by omega)⟩
set_option maxHeartbeats 3200000 in
set_option maxRecDepth 100000 in
theorem walk_scrubMoves (b p s n f : Int) (a : Option Addr) (len cap : Nat) (D : Nat → List Int) (leb : Int) (w : World) (hr : SRow w a len cap D) :
    Calls Tryz.prog 6 #[.agg #[.int .i64 b, .int .i64 p, .int .i64 s, .int .i64 n, .int .i64 f], .slice a len cap, .int .i64 leb] w fun e w' => e = .returned (.bool true) ∧ Below w.heap.size w w' := by
  have hcp := hr.hcap
  have hmx := hr.hmax
  unfold maxLen at hmx
  have Q0 : Hid (Below w.heap.size w (w.alloc (.cells #[.int .i64 b, .int .i64 p, .int .i64 s, .int .i64 n, .int .i64 f] 23))) := below_one _ _
  have hgb := gbox_new w 23 b p s n f
  obtain ⟨_, c0, c1, c2, c3, c4⟩ := hgb
  have hgb := gbox_new w 23 b p s n f
  have hr0 := hr.below Q0.out (Nat.le_refl _)
  clear hr
  go_enter Tryz.func6, Tryz.ntmps6
  go_wp2_with fail
  refine (may12_any b p s n f a len cap D none 0 0 _ hr0 (by unfold maxLen; omega)).mono ?_
  rintro e w1 ⟨hm, q1⟩
  clear c0 c1 c2 c3 c4
  have Q1 : Hid (Below w.heap.size w w1) := btrans Q0.out q1
  cases hm with
  | no =>
    clear hr0 hgb
    go_wp2_with fail
    go_ret
    exact ⟨rfl, Q1.out⟩
  | yes G eb ep es en ef hm =>
    subst eb ep es en ef
    have hr1 := hr0.below q1 (Nat.le_refl _)
    obtain ⟨_, c0, c1, c2, c3, c4⟩ := hgb.below q1 (Nat.le_refl _)
    clear hgb hr0 q1 Q0
    have hfl := fill12_any G a len cap D none 0 0 _ w1 hr1 (wrow_nil w1) hm
    go_wp2_with fail
    refine hfl.mono ?_
    rintro e w2 ⟨cp, d, sp, rfl, B, rfl, h2⟩
    clear hfl c0 c1 c2 c3 c4
    obtain ⟨F, S, K, M, g, st, nu, h2, hl, ⟨hwl, hah⟩, hd⟩ := h2
    have hb12 := hm.b12
    have hlb := hm.lb
    have HR1 : Hid _ := hr1
    have HD : Hid (HasD D len len M) := hd
    clear hr1 hd hm
    by_cases hin : 0 ≤ leb ∧ leb < (len : Int)
    · obtain ⟨j, rfl⟩ := Int.eq_ofNat_of_zero_le hin.1
      have hjl : j < len := by omega
      have hmv := move_any h2 j (by omega) (HD.out.has j hjl) (by omega) (by omega)
      clear h2
      go_wp2_with fail
      refine hmv.mono ?_
      rintro e w3 ⟨r, rfl, hDC, hch⟩
      clear hmv
      obtain ⟨y, hy, hys⟩ := free_of st G.b (by rw [hl]; exact hlb)
      have hr0 := chg_well hch hah y hy hys (hwl.bd y) (hwl.wk y)
      subst hr0
      rcases hch with ⟨F3, S3, K3, st3, nu3, _, h3, hst3, _, wk3, ah3, cl3, _, on3, _, _⟩ | ⟨_, _, _, _, hr, _⟩ | ⟨_, _, _, _, _, hr, _⟩
      rotate_left
      · cases hr
      · cases hr
      rw [updM_self (HD.out.has j hjl)] at h3
      have hhas := has12_any h3 (SRow.below HR1.out h3.bel (Nat.le_refl _)) (by rw [hst3]; exact hl) HD.out
      have H3 : Hid _ := h3
      have HAH : Hid (S3.ah = 0) := ah3 hah
      clear h3 hys hy hwl wk3 on3 ah3 cl3
      have g1 : ¬ (j : Int) < 0 := by omega
      have g2 : ¬ (len : Int) ≤ (j : Int) := by omega
      clear hin
      go_wp2_with fail
      refine hhas.mono ?_
      rintro e w4 ⟨rfl, q4⟩
      clear hhas
      have h4 := LS.below H3.out q4
      have hun := h4.unmap j (by omega) (by omega)
      clear h4 q4 H3
      go_wp2_with fail
      refine hun.mono ?_
      rintro e w5 ⟨r, rfl, hu⟩
      clear hun
      rcases hu with ⟨F5, S5, K5, st5, nu5, rfl, h5, hst5, q5, _⟩ | ⟨_, _, _, _, _, _, _, _, _, _, hn⟩
      rotate_left
      · exact absurd HAH.out hn
      have H5 : Hid _ := h5
      have hl5 : st5.length = len := by omega
      clear h5 q5
      go_wp2_with fail
      refine (awake12_any _).mono ?_
      rintro e w6 ⟨rfl, q6⟩
      have h6 := LS.below H5.out q6
      have hmn := move_none h6 j (by omega) (updM_at _ _ _)
      have HQ : Hid (Below w.heap.size w w6) := btrans Q1.out h6.bel
      clear h6 q6 H5
      go_wp2_with fail
      refine hmn.mono ?_
      rintro e w7 ⟨rfl, rfl⟩
      clear hmn
      go_wp2_with fail
      go_ret
      exact ⟨rfl, HQ.out⟩
    · have hma := move_arg h2 leb (by rw [hl]; exact hin)
      have HQ2 : Hid (Below w.heap.size w w2) := btrans Q1.out h2.bel
      clear h2
      go_wp2_with fail
      refine hma.mono ?_
      rintro e w3 ⟨rfl, rfl⟩
      clear hma
      by_cases g1 : leb < 0
      · go_wp2_with fail
        refine (awake12_any _).mono ?_
        rintro e w6 ⟨rfl, q6⟩
        have HQ : Hid (Below w.heap.size w w6) := btrans HQ2.out q6
        clear q6
        go_wp2_with fail
        refine (move_nil leb _).mono ?_
        rintro e w7 ⟨rfl, rfl⟩
        go_wp2_with fail
        go_ret
        exact ⟨rfl, HQ.out⟩
      · have g2 : (len : Int) ≤ leb := by omega
        clear hin
        go_wp2_with fail
        refine (awake12_any _).mono ?_
        rintro e w6 ⟨rfl, q6⟩
        have HQ : Hid (Below w.heap.size w w6) := btrans HQ2.out q6
        clear q6
        go_wp2_with fail
        refine (move_nil leb _).mono ?_
        rintro e w7 ⟨rfl, rfl⟩
        go_wp2_with fail
        go_ret
        exact ⟨rfl, HQ.out⟩
set_option maxHeartbeats 3200000 in
set_option maxRecDepth 100000 in
theorem walk_scrubKeeps (b p s n f : Int) (a : Option Addr) (len cap : Nat) (D : Nat → List Int) (a2 : Option Addr) (wl cap2 : Nat) (V : Nat → WrV) (t : Int) (w : World) (hr : SRow w a len cap D) (hv : WRow w a2 wl cap2 V) :
    Calls Tryz.prog 4 #[.agg #[.int .i64 b, .int .i64 p, .int .i64 s, .int .i64 n, .int .i64 f], .slice a len cap, .slice a2 wl cap2, .int .i64 t] w fun e w' => e = .returned (.bool true) ∧ Below w.heap.size w w' := by
  have hcp := hr.hcap
  have hmx := hr.hmax
  have hcp2 := hv.hcap
  have hmx2 := hv.hmax
  have hwm : wl ≤ maxLen := Nat.le_trans hcp2 hmx2
  unfold maxLen at hmx hmx2
  have Q0 : Hid (Below w.heap.size w (w.alloc (.cells #[.int .i64 b, .int .i64 p, .int .i64 s, .int .i64 n, .int .i64 f] 23))) := below_one _ _
  have hgb := gbox_new w 23 b p s n f
  obtain ⟨_, c0, c1, c2, c3, c4⟩ := hgb
  have hgb := gbox_new w 23 b p s n f
  have hr0 := hr.below Q0.out (Nat.le_refl _)
  have hv0 := hv.below Q0.out (Nat.le_refl _)
  clear hr hv
  go_enter Tryz.func4, Tryz.ntmps4
  go_wp2_with fail
  refine (may12_any b p s n f a len cap D a2 wl cap2 _ hr0 hwm).mono ?_
  rintro e w1 ⟨hm, q1⟩
  clear c0 c1 c2 c3 c4
  have Q1 : Hid (Below w.heap.size w w1) := btrans Q0.out q1
  cases hm with
  | no =>
    clear hr0 hv0 hgb
    go_wp2_with fail
    go_ret
    exact ⟨rfl, Q1.out⟩
  | yes G eb ep es en ef hm =>
    subst eb ep es en ef
    by_cases ht : t < 1
    · clear hr0 hv0 hgb
      go_wp2_with fail
      go_ret
      exact ⟨rfl, Q1.out⟩
    have ht1 : 1 ≤ t := by omega
    have hr1 := hr0.below q1 (Nat.le_refl _)
    have hv1 := hv0.below q1 (Nat.le_refl _)
    obtain ⟨_, c0, c1, c2, c3, c4⟩ := hgb.below q1 (Nat.le_refl _)
    clear hgb hr0 hv0 q1 Q0
    have hfl := fill12_any G a len cap D a2 wl cap2 V w1 hr1 hv1 hm
    clear hv1
    go_wp2_with fail
    refine hfl.mono ?_
    rintro e w2 ⟨cp, d, sp, rfl, B, rfl, h2⟩
    clear hfl c0 c1 c2 c3 c4
    obtain ⟨F, S, K, M, g, st, nu, h2, hl, ⟨hwl, hah⟩, hd⟩ := h2
    have hb12 := hm.b12
    have hlb := hm.lb
    have HR1 : Hid _ := hr1
    have HD : Hid (HasD D len len M) := hd
    have HWL : Hid (Well S) := hwl
    have HAH : Hid (S.ah = 0) := hah
    clear hr1 hd hm hwl hah
    have hwn := worn_any h2 t ht1
    have H2 : Hid _ := h2
    clear h2
    obtain ⟨L, hL⟩ : ∃ L, L = wornTo (wornB G S st M t) st.length := ⟨_, rfl⟩
    have HL : Hid (L = wornTo (wornB G S st M t) st.length) := hL
    rw [← hL] at hwn
    clear hL
    go_wp2_with fail
    refine hwn.mono ?_
    rintro e w3 ⟨v, rfl, own, q3⟩
    clear hwn
    obtain ⟨a3, cp3, rfl, r3⟩ := row_of_owns own
    have o3 := LS.new H2.out r3 (fun h0 q hq => by
      obtain ⟨g', h1, h2⟩ := owns_head own h0
      rw [h2] at hq
      cases hq
      exact h1)
    have h3 := LS.below H2.out q3
    clear own r3 q3 H2
    have hal := all_well h3 t ht1 HWL.out (by rw [hl]; exact hlb) hb12 (by omega) (by omega)
    rw [← HL.out] at hal
    clear h3
    generalize hnl : L.length = nl at *
    go_wp2_with fail
    refine hal.mono ?_
    rintro e w4 ⟨r, a4, k4, cp4, rfl, hai⟩
    clear hal
    rcases hai with ⟨F4, S4, K4, st4, nu4, rfl, r4, h4, mv, q4⟩ | ⟨_, _, _, _, _, _, _, _, hah⟩
    rotate_left
    · exact absurd HAH.out hah
    have o4 := o3.step q4
    have hl4 : st4.length = len := by rw [mv.len]; exact hl
    have HNO : Hid (wornTo (wornB G S4 st4 M t) st4.length = []) := by
      have mv' := mv
      rw [HL.out] at mv'
      exact wornTo_none fun j hj => mv'.none ht1 j (by rw [← mv'.len]; exact hj)
    have hwn := worn_any h4 t ht1
    rw [HNO.out] at hwn
    have H4 : Hid _ := h4
    clear o3 q4 h4 mv HNO
    go_wp2_with fail
    refine hwn.mono ?_
    rintro e w5 ⟨v, rfl, own, q5⟩
    clear hwn
    obtain ⟨a5, cp5, rfl, r5⟩ := row_of_owns own
    clear own r5
    have ra := o4.row.below q5 (Nat.le_refl _)
    have rb := r4.below q5 (Nat.le_refl _)
    have H5 : Hid _ := LS.below H4.out q5
    clear o4 r4 q5 H4
    go_wp2_with fail
    refine (awake12_any _).mono ?_
    rintro e w6 ⟨rfl, q6⟩
    have hi := ints_any _ _ _ _ _ _ _ _ _ (ra.below q6 (Nat.le_refl _)) (rb.below q6 (Nat.le_refl _))
    rw [decide_eq_true (rfl : L = L)] at hi
    have H6 : Hid _ := LS.below H5.out q6
    clear ra rb q6 H5
    go_wp2_with fail
    refine hi.mono ?_
    rintro e w7 ⟨rfl, q7⟩
    clear hi
    have h7 := LS.below H6.out q7
    have hhas := has12_any h7 (SRow.below HR1.out h7.bel (Nat.le_refl _)) hl4 HD.out
    have HQ7 : Hid (Below w.heap.size w w7) := btrans Q1.out h7.bel
    clear h7 q7 H6
    go_wp2_with fail
    refine hhas.mono ?_
    rintro e w8 ⟨rfl, q8⟩
    have HQ8 : Hid (Below w.heap.size w w8) := btrans HQ7.out q8
    clear hhas q8
    go_wp2_with fail
    go_ret
    exact ⟨rfl, HQ8.out⟩
end Go.Proofs.YtgamakejaknagaaGreat
