/-
 Layer 11's laws: the walk of StoreCuts.
-/
import Derived.Test.YtbafkakhhelcmaaGreatStoreCut2
namespace Go.Proofs.YtbafkakhhelcmaaGreat
open Go.RowKit Go.Maps
set_option linter.unusedVariables false
set_option maxRecDepth 8192

theorem sameM_self (L : Nat) (M : Int → Option (List Int)) : sameM L M M = true := by unfold sameM; rw [decide_eq_true_iff]; exact fun _ _ => rfl
theorem sameM_yes {L : Nat} {M M' : Int → Option (List Int)} (h : sameM L M M' = true) : ∀ j : Nat, j < L → M j = M' j := by unfold sameM at h; exact of_decide_eq_true h
def CutAt (W : World) (G : Geo) (B : CB) (L N mb s : Nat) (w : World) : Prop :=
 ∃ F S K M d g st nu hb db c1 c2, LS W G B F N S K M (N : Int) d s g st nu w ∧ st.length = L ∧ MB W F d s g L mb hb db c1 c2 M w
theorem CutAt.bel {W w : World} {G : Geo} {B : CB} {L N mb s : Nat} (h : CutAt W G B L N mb s w) : Below W.heap.size W w := by
 obtain ⟨F, S, K, M, d, g, st, nu, hb, db, c1, c2, h, _⟩ := h
 exact h.bel
theorem mb_new {W w w' : World} {G : Geo} {B : CB} {F : Nat → Prop} {N : Nat} {S : CS} {K : Int → BK} {M M' : Int → Option (List Int)} {c : Int} {d s g : Nat} {st : List Int} {nu : Int} {L hb db c1 c2 : Nat}
  (h : LS W G B F N S K M c d s g st nu w) (hm : MapAt w' hb db L M') (q : Below w.heap.size w w') (h1 : w.heap.size ≤ hb ∧ w.heap.size ≤ db) :
  MB W F d s g L w'.heap.size hb db c1 c2 M' (w'.alloc (.cells #[.slice (some ⟨hb, 0, none⟩) L c1, .slice (some ⟨db, 0, none⟩) L c2] 40)) := by
 have q2 := below_one w' (.cells #[.slice (some ⟨hb, 0, none⟩) L c1, .slice (some ⟨db, 0, none⟩) L c2] 40)
 have hlt := hm.lt
 have hz := q2.size
 have hz2 := q.size
 have v := vrow_box w' 40 (.slice (some ⟨hb, 0, none⟩) L c1) (.slice (some ⟨db, 0, none⟩) L c2)
 exact ⟨hm.below q2, v, h.free (by omega) v.lt, h.free h1.1 (by omega), h.free h1.2 (by omega), by omega, by omega⟩
set_option maxHeartbeats 12800000 in
set_option maxRecDepth 100000 in
theorem walk_storeCuts (b p s n f : Int) (ba : Option Addr) (bl bc : Nat) (bz : List Int) (lebs : Int) (sa : Option Addr) (sl sc : Nat) (ops : Nat → SOp) (w : World) (hbad : Row .i64 w ba bl bc bz) (hbw : ∀ n ∈ bz, (Lit.int .i64 n).wf = true) (hsc : SScriptAt w sa sl sc ops) :
  Calls Tryz.prog 4 #[.agg #[.int .i64 b, .int .i64 p, .int .i64 s, .int .i64 n, .int .i64 f], .slice ba bl bc, .int .i64 lebs, .slice sa sl sc] w fun e w' => e = .returned (.bool true) ∧ Below w.heap.size w w' := by
 have hbm : bl ≤ maxLen := Nat.le_trans hbad.hcap hbad.hmax
 unfold maxLen at hbm
 cases hsm : small11 b p s n f
 ·go_enter Tryz.func4, Tryz.ntmps4
  go_wp2_with fail
  refine (small11_any b p s n f _).mono ?_
  rintro e w1 ⟨rfl, q1⟩
  rw [hsm]
  go_wp2_with fail
  go_ret
  exact ⟨rfl, btrans (below_one _ _) q1⟩
 by_cases hok : bl ≤ 20 ∧ 1 ≤ lebs ∧ lebs ≤ 12
 case neg =>
  go_enter Tryz.func4, Tryz.ntmps4
  go_wp2_with fail
  refine (small11_any b p s n f _).mono ?_
  rintro e w1 ⟨rfl, q1⟩
  rw [hsm]
  have hfa := sfew_any _ _ _ ops _ (hsc.below (btrans (below_one _ _) q1) (Nat.le_refl _))
  have Q1 : Hid (Below w.heap.size w w1) := btrans (below_one _ _) q1
  clear q1 hsc hbad
  go_wp2_with fail
  all_goals first
   | (exfalso; omega)
   | (go_ret; exact ⟨rfl, Q1.out⟩)
 obtain ⟨hb20, hl1, hl2⟩ := hok
 obtain ⟨L, rfl⟩ := Int.eq_ofNat_of_zero_le (show 0 ≤ lebs by omega)
 obtain ⟨G, rfl, rfl, rfl, rfl, rfl, hb12, hp5, hR⟩ := geo11_ex hsm
 have hx1 : ¬ (20 : Int) < (bl : Int) := by omega
 have hx2 : ¬ (L : Int) < 1 := by omega
 have hx3 : ¬ (12 : Int) < (L : Int) := by omega
 have HSM : Hid (small11 G.b G.p G.s G.n G.f = true) := hsm
 clear hsm
 cases hfew : sfewB sl ops
 ·go_enter Tryz.func4, Tryz.ntmps4
  go_wp2_with fail
  refine (small11_any _ _ _ _ _ _).mono ?_
  rintro e w1 ⟨rfl, q1⟩
  rw [HSM.out]
  go_wp2_with fail
  refine (sfew_any _ _ _ ops _ (hsc.below (btrans (below_one _ _) q1) (Nat.le_refl _))).mono ?_
  rw [hfew]
  rintro e w2 ⟨rfl, rfl⟩
  go_wp2_with fail
  go_ret
  exact ⟨rfl, btrans (below_one _ _) q1⟩
 have HFEW : Hid (sl ≤ 80 ∧ ∀ i, i < sl → (ops i).rl ≤ 200) := by show _ ∧ _; unfold sfewB at hfew; exact of_decide_eq_true hfew
 by_cases hall : ∀ x ∈ bz, inB0 x G.b = true
 case neg =>
  obtain ⟨x, hx, hxb⟩ : ∃ x ∈ bz, inB0 x G.b = false := by
   by_cases hh : ∃ x ∈ bz, inB0 x G.b = false
   ·exact hh
   ·exact absurd (fun x hx => by
     cases h : inB0 x G.b
     ·exact absurd ⟨x, hx, h⟩ hh
     ·rfl) hall
  go_enter Tryz.func4, Tryz.ntmps4
  go_wp2_with fail
  refine (small11_any _ _ _ _ _ _).mono ?_
  rintro e w1 ⟨rfl, q1⟩
  rw [HSM.out]
  go_wp2_with fail
  refine (sfew_any _ _ _ ops _ (hsc.below (btrans (below_one _ _) q1) (Nat.le_refl _))).mono ?_
  rw [hfew]
  rintro e w2 ⟨rfl, rfl⟩
  obtain ⟨_, c0, c1, c2, c3, c4⟩ := (gbox_new w 23 G.b G.p G.s G.n G.f).below q1 (Nat.le_refl _)
  have hbad1 := hbad.below (btrans (below_one _ _) q1) (Nat.le_refl _)
  go_wp2_with fail
  refine (chipNew_bad G _ _ _ bz _ hbad1 hbw (by omega) hx hxb).mono ?_
  rintro e w3 ⟨rfl, q3⟩
  clear c0 c1 c2 c3 c4
  go_wp2_with fail
  refine (awake11_any _).mono ?_
  rintro e w4 ⟨rfl, q4⟩
  go_wp2_with fail
  go_ret
  exact ⟨rfl, btrans (btrans (btrans (below_one _ _) q1) q3) q4⟩
 go_enter Tryz.func4, Tryz.ntmps4
 go_wp2_with fail
 refine (small11_any _ _ _ _ _ _).mono ?_
 rintro e w1 ⟨rfl, q1⟩
 rw [HSM.out]
 go_wp2_with fail
 refine (sfew_any _ _ _ ops _ (hsc.below (btrans (below_one _ _) q1) (Nat.le_refl _))).mono ?_
 rw [hfew]
 rintro e w2 ⟨rfl, rfl⟩
 have hgb := (gbox_new w 23 G.b G.p G.s G.n G.f).below q1 (Nat.le_refl _)
 obtain ⟨_, c0, c1, c2, c3, c4⟩ := hgb
 have hgb := (gbox_new w 23 G.b G.p G.s G.n G.f).below q1 (Nat.le_refl _)
 have Q1 : Hid (Below w.heap.size w w1) := btrans (below_one _ _) q1
 have hbad1 := hbad.below Q1.out (Nat.le_refl _)
 have hsc1 := hsc.below Q1.out (Nat.le_refl _)
 clear q1 hbad hsc
 go_wp2_with fail
 clear c0 c1 c2 c3 c4 hx1 hx2 hx3
 refine (chipNew_yes G _ _ _ bz _ hbad1 hbw (by omega) hall).mono ?_
 rintro e w2 ⟨cc, rfl, hn⟩
 obtain ⟨B, F, ⟨rfl, hlim⟩, hh⟩ := newChip_lim (Below.refl _ _) hn
 have hcl := cl_new hh hlim
 clear hn hh hbad1
 have hop := open11_new hcl L (by omega) (by omega) (fun _ _ => rfl)
 clear hcl
 go_wp2_with fail
 refine hop.mono ?_
 rintro e w3 ⟨d, s, g, st, nu, ⟨_, hl⟩, rfl, h3, _⟩
 have hnw := refNew11_any L (by omega) w3
 go_wp2_with fail
 refine hnw.mono ?_
 rintro e w4 ⟨hb, db, hnew, rfl, hm4, q4⟩
 unfold mapV
 have HC0 : Hid (CutAt w1 G B L (100 + 0 * 4000) w4.heap.size s (w4.alloc (.cells #[.slice (some ⟨hb, 0, none⟩) L L, .slice (some ⟨db, 0, none⟩) L L] 40))) :=
  ⟨_, _, _, _, d, g, st, nu, hb, db, L, L, ((h3.below q4).below (below_one _ _)).more (by omega) (by omega), hl, mb_new h3 hm4 q4 hnew⟩
 clear hnw hop h3 hm4 q4 hnew
 go_wp2_with fail
 generalize w4.alloc (.cells #[.slice (some ⟨hb, 0, none⟩) L L, .slice (some ⟨db, 0, none⟩) L L] 40) = w5 at *
 generalize w4.heap.size = mb at *
 clear hlim hl hfew
 go_loopw [11, 13] (fun sv i wr => ∃ k s : Nat, k ≤ sl ∧ sv = .pointer (some ⟨s, 0, none⟩) ∧ i = .int .i64 (k : Int) ∧ Hid (CutAt w1 G B L (100 + k * 4000) mb s wr)) (fun _ i _ => sl - (RowKit.intOf i).toNat)
 case atStart => exact ⟨0, s, by omega, rfl, rfl, HC0⟩
 case round =>
  clear HC0
  obtain ⟨k, s, hk, rfl, rfl, HC⟩ := hrel
  have QW : Hid (Below w1.heap.size w1 wr) := HC.out.bel
  by_cases hlt : k < sl
  ·have hlt' : (k : Int) < (sl : Int) := by omega
   have hslm := hsc1.max
   unfold maxLen at hslm
   obtain ⟨cb, coff, rfl, hcb, hcc⟩ := hsc1.cells k hlt
   have hcc2 := hcc.same (QW.out.block cb hcb)
   have hok := hsc1.ok k hlt
   have hfw := HFEW.out.2 k hlt
   have h80 := HFEW.out.1
   clear hcc
   generalize ops k = o at *
   obtain ⟨kind, leb, block, n, keep, ra, rl, rc, rz⟩ := o
   obtain ⟨c0, c1, c2, c3, c4, c5⟩ := hcc2
   dsimp only at c0 c1 c2 c3 c4 c5 hfw
   obtain ⟨I1, I2, I3, I4, I5, hrow, hrb⟩ := hok
   dsimp only at I1 I2 I3 I4 I5 hrow hrb
   obtain ⟨F, S, K, M, d, g, st, nu, hb, db, c1m, c2m, h, hl, hm⟩ := HC.out
   have q6 := below_one wr (.cells #[.int .i64 kind, .int .i64 leb, .int .i64 block, .int .i64 n, .int .i64 keep, .slice ra rl rc] 45)
   have hO : OB w1 F d s g wr.heap.size kind leb block n keep ra rl rc (wr.alloc (.cells #[.int .i64 kind, .int .i64 leb, .int .i64 block, .int .i64 n, .int .i64 keep, .slice ra rl rc] 45)) := ⟨vrow_op wr kind leb block n keep ra rl rc, h.free (Nat.le_refl _) (vrow_op wr kind leb block n keep ra rl rc).lt⟩
   have nO1 : mb ≠ wr.heap.size := by have := hm.fm.lt; omega
   have nO2 : hb ≠ wr.heap.size := by have := hm.fh.lt; omega
   have nO3 : db ≠ wr.heap.size := by have := hm.fd.lt; omega
   replace h := h.below q6
   replace hm := hm.below q6
   clear q6 HC QW
   by_cases k6 : kind = 6
   ·subst k6
    have o0 := hO.o0
    have o3 := hO.o3
    have o4 := hO.o4
    have ha := h.arm n keep I4 I5
    go_wp2_with fail
    refine ha.mono ?_
    rintro e w7 ⟨⟨r, rfl⟩, S7, h7, q7⟩
    have HC7 : Hid (CutAt w1 G B L (100 + (k + 1) * 4000) mb s w7) := ⟨F, S7, K, M, d, g, st, nu, hb, db, c1m, c2m, h7.more (by omega) (by omega), hl, hm.step q7⟩
    clear ha h hm hO h7 q7 o0 o3 o4 c0 c1 c2 c3 c4 c5
    go_wp2_with fail
    go_roundw
    case rel => exact ⟨k + 1, s, by omega, rfl, by go_num, HC7⟩
    case measure => simp [RowKit.intOf]; omega
   have k6' : (kind == 6) = false := by simp [k6]
   by_cases k4 : kind = 4
   ·subst k4
    have o0 := hO.o0
    have o2 := hO.o2
    have ha := h.weak block I3 (by omega)
    go_wp2_with fail
    refine ha.mono ?_
    rintro e w7 ⟨⟨r, rfl⟩, F7, h7, q7⟩
    have HC7 : Hid (CutAt w1 G B L (100 + (k + 1) * 4000) mb s w7) := ⟨F7, _, K, M, d, g, st, nu, hb, db, c1m, c2m, h7.more (by omega) (by omega), hl, hm.step q7⟩
    clear ha h hm hO h7 q7 o0 o2 c0 c1 c2 c3 c4 c5
    go_wp2_with fail
    go_roundw
    case rel => exact ⟨k + 1, s, by omega, rfl, by go_num, HC7⟩
    case measure => simp [RowKit.intOf]; omega
   have k4' : (kind == 4) = false := by simp [k4]
   have o0 := hO.o0
   go_wp2_with fail
   clear o0 c0 c1 c2 c3 c4 c5
   generalize wr.alloc (.cells #[.int .i64 kind, .int .i64 leb, .int .i64 block, .int .i64 n, .int .i64 keep, .slice ra rl rc] 45) = w6 at *
   generalize wr.heap.size = ob at *
   rcases (show leb < 0 ∨ (L : Int) ≤ leb ∨ (0 ≤ leb ∧ leb < (L : Int)) by omega) with hA | hA | ⟨hA, hA2⟩
   ·have hKS : Hid True := trivial
    refine held_begin (by kernel_rfl) ?_
    refine held_reads (rs := [0, 1, 2, 3, 4, 5, 6, 7, 8, 9, 10, 11, 12, 13, 14, 15, 16, 17, 18, 19, 20, 21]) (fuel := 0) (by kernel_rfl) (fun c d v a w h => by cases d <;> exact h) (by kernel_rfl) (Since.drew _) (fun K hK => ?_)
    refine calm_do (.pointer (some ⟨ob, 1, none⟩)) rfl (by rfl) (fun w' hw' => ?_) ?_
    ·go_simp
    go_simp
    refine calm_do (.int .i64 leb) rfl (by rfl) (fun w' hw' => ?_) ?_
    ·have cz := (hO.below hw').o1
     go_simp
    go_simp
    refine calm_do (.bool true) rfl (by rfl) (fun w' hw' => ?_) ?_
    ·go_simp
    go_simp
    refine calm_move _ rfl (by rfl) rfl ?_
    go_simp
    refine calm_skip rfl (by rfl) ?_
    go_simp
    refine calm_skip rfl (by rfl) ?_
    go_simp
    refine calm_skip rfl (by rfl) ?_
    go_simp
    refine calm_skip rfl (by rfl) ?_
    go_simp
    refine calm_do (.bool true) rfl (by rfl) (fun w' hw' => ?_) ?_
    ·go_simp
    go_simp
    refine calm_move _ rfl (by rfl) rfl ?_
    go_simp
    refine calm_skip rfl (by rfl) ?_
    go_simp
    refine calm_skip rfl (by rfl) ?_
    go_simp
    refine calm_skip rfl (by rfl) ?_
    go_simp
    refine calm_skip rfl (by rfl) ?_
    go_simp
    refine calm_skip rfl (by rfl) ?_
    go_simp
    refine calm_skip rfl (by rfl) ?_
    go_simp
    refine calm_do (.bool true) rfl (by rfl) (fun w' hw' => ?_) ?_
    ·go_simp
    go_simp
    refine calm_move _ rfl (by rfl) rfl ?_
    go_simp
    refine calm_skip rfl (by rfl) ?_
    go_simp
    refine calm_skip rfl (by rfl) ?_
    go_simp
    refine calm_skip rfl (by rfl) ?_
    go_simp
    refine calm_do (.bool true) rfl (by rfl) (fun w' hw' => ?_) ?_
    ·go_simp
    go_simp
    refine calm_nil (hK.out _ ?_)
    clear hK K
    refine wpAnyH_done (by kernel_rfl) ?_ _
    replace h := h.below (Below.refl _ w6).drew
    replace hm := hm.below (Below.refl _ w6).drew
    replace hO := hO.below (Below.refl _ w6).drew
    have HC7 : Hid (CutAt w1 G B L (100 + (k + 1) * 4000) mb s w6.drew) := ⟨F, S, K, M, d, g, st, nu, hb, db, c1m, c2m, h.more (by omega) (by omega), hl, hm⟩
    clear h hm hO
    generalize w6.drew = w8 at *
    go_wp2_with fail
    go_roundw
    case rel => exact ⟨k + 1, s, by omega, rfl, by go_num, HC7⟩
    case measure => simp [RowKit.intOf]; omega
   ·have hA0 : ¬ leb < 0 := by omega
    refine held_begin (by kernel_rfl) ?_
    refine held_reads (rs := [0, 1, 2, 3, 4, 5, 6, 7, 8, 9, 10, 11, 12, 13, 14, 15, 16, 17, 18, 19, 20, 21]) (fuel := 0) (by kernel_rfl) (fun c d v a w h => by cases d <;> exact h) (by kernel_rfl) (Since.drew _) (fun K hK => ?_)
    refine calm_do (.pointer (some ⟨ob, 1, none⟩)) rfl (by rfl) (fun w' hw' => ?_) ?_
    ·go_simp
    go_simp
    refine calm_do (.int .i64 leb) rfl (by rfl) (fun w' hw' => ?_) ?_
    ·have cz := (hO.below hw').o1
     go_simp
    go_simp
    refine calm_do (.bool false) rfl (by rfl) (fun w' hw' => ?_) ?_
    ·go_simp
    go_simp
    refine calm_move _ rfl (by rfl) rfl ?_
    go_simp
    refine calm_do (.pointer (some ⟨ob, 1, none⟩)) rfl (by rfl) (fun w' hw' => ?_) ?_
    ·go_simp
    go_simp
    refine calm_do (.int .i64 leb) rfl (by rfl) (fun w' hw' => ?_) ?_
    ·have cz := (hO.below hw').o1
     go_simp
    go_simp
    refine calm_move _ rfl (by rfl) rfl ?_
    go_simp
    refine calm_do (.bool true) rfl (by rfl) (fun w' hw' => ?_) ?_
    ·go_simp
    go_simp
    refine calm_do (.bool true) rfl (by rfl) (fun w' hw' => ?_) ?_
    ·go_simp
    go_simp
    refine calm_move _ rfl (by rfl) rfl ?_
    go_simp
    refine calm_skip rfl (by rfl) ?_
    go_simp
    refine calm_skip rfl (by rfl) ?_
    go_simp
    refine calm_skip rfl (by rfl) ?_
    go_simp
    refine calm_skip rfl (by rfl) ?_
    go_simp
    refine calm_skip rfl (by rfl) ?_
    go_simp
    refine calm_skip rfl (by rfl) ?_
    go_simp
    refine calm_do (.bool true) rfl (by rfl) (fun w' hw' => ?_) ?_
    ·go_simp
    go_simp
    refine calm_move _ rfl (by rfl) rfl ?_
    go_simp
    refine calm_skip rfl (by rfl) ?_
    go_simp
    refine calm_skip rfl (by rfl) ?_
    go_simp
    refine calm_skip rfl (by rfl) ?_
    go_simp
    refine calm_do (.bool true) rfl (by rfl) (fun w' hw' => ?_) ?_
    ·go_simp
    go_simp
    refine calm_nil (hK.out _ ?_)
    clear hK K
    refine wpAnyH_done (by kernel_rfl) ?_ _
    replace h := h.below (Below.refl _ w6).drew
    replace hm := hm.below (Below.refl _ w6).drew
    replace hO := hO.below (Below.refl _ w6).drew
    have HC7 : Hid (CutAt w1 G B L (100 + (k + 1) * 4000) mb s w6.drew) := ⟨F, S, K, M, d, g, st, nu, hb, db, c1m, c2m, h.more (by omega) (by omega), hl, hm⟩
    clear h hm hO
    generalize w6.drew = w8 at *
    go_wp2_with fail
    go_roundw
    case rel => exact ⟨k + 1, s, by omega, rfl, by go_num, HC7⟩
    case measure => simp [RowKit.intOf]; omega
   obtain ⟨j, rfl⟩ := Int.eq_ofNat_of_zero_le hA
   have hj : j < L := by omega
   have hA0 : ¬ (j : Int) < 0 := by omega
   have hA1 : ¬ (L : Int) ≤ (j : Int) := by omega
   by_cases hCap : (G.C : Int) < (rl : Int)
   ·have hKS : Hid True := trivial
    refine held_begin (by kernel_rfl) ?_
    refine held_reads (rs := [0, 1, 2, 3, 4, 5, 6, 7, 8, 9, 10, 11, 12, 13]) (fuel := 8) (by kernel_rfl) (fun c d v a w h => by cases d <;> exact h) (by kernel_rfl) (Since.drew _) (fun K hK => ?_)
    refine calm_do (.pointer (some ⟨ob, 1, none⟩)) rfl (by rfl) (fun w' hw' => ?_) ?_
    ·go_simp
    go_simp
    refine calm_do (.int .i64 (j : Int)) rfl (by rfl) (fun w' hw' => ?_) ?_
    ·have cz := (hO.below hw').o1
     go_simp
    go_simp
    refine calm_do (.bool false) rfl (by rfl) (fun w' hw' => ?_) ?_
    ·go_simp
    go_simp
    refine calm_move _ rfl (by rfl) rfl ?_
    go_simp
    refine calm_do (.pointer (some ⟨ob, 1, none⟩)) rfl (by rfl) (fun w' hw' => ?_) ?_
    ·go_simp
    go_simp
    refine calm_do (.int .i64 (j : Int)) rfl (by rfl) (fun w' hw' => ?_) ?_
    ·have cz := (hO.below hw').o1
     go_simp
    go_simp
    refine calm_move _ rfl (by rfl) rfl ?_
    go_simp
    refine calm_do (.bool false) rfl (by rfl) (fun w' hw' => ?_) ?_
    ·go_simp
    go_simp
    refine calm_do (.bool false) rfl (by rfl) (fun w' hw' => ?_) ?_
    ·go_simp
    go_simp
    refine calm_move _ rfl (by rfl) rfl ?_
    go_simp
    refine calm_do (.pointer (some ⟨ob, 5, none⟩)) rfl (by rfl) (fun w' hw' => ?_) ?_
    ·go_simp
    go_simp
    refine calm_do (.slice ra rl rc) rfl (by rfl) (fun w' hw' => ?_) ?_
    ·have cz := (hO.below hw').o5
     go_simp
    go_simp
    refine calm_do (.int .i64 (rl : Int)) rfl (by rfl) (fun w' hw' => ?_) ?_
    ·go_simp
    go_simp
    refine calm_move _ rfl (by rfl) rfl ?_
    go_simp
    refine calm_nil (hK.out _ ?_)
    clear hK K
    refine held_call (i := 14) (fuel := 7) (by kernel_rfl) rfl (by rfl) (fun K hK => ?_)
    go_simp
    refine (stCap_any w6.drew h.at_.drew).mono ?_
    rintro e w7 ⟨rfl, qq0⟩
    have q7 : Since w6 w7 := Since.trans (Since.drew _) qq0
    refine hK _ _ q7 ?_
    clear hK K qq0
    replace h := h.below q7
    replace hm := hm.below q7
    replace hO := hO.below q7
    clear q7
    refine held_reads (rs := [15, 16, 17, 18, 19, 20, 21]) (fuel := 0) (by kernel_rfl) (fun c d v a w h => by cases d <;> exact h) (by kernel_rfl) (Since.refl _) (fun K hK => ?_)
    go_simp
    refine calm_do (.bool true) rfl (by rfl) (fun w' hw' => ?_) ?_
    ·go_simp
    go_simp
    refine calm_do (.bool true) rfl (by rfl) (fun w' hw' => ?_) ?_
    ·go_simp
    go_simp
    refine calm_move _ rfl (by rfl) rfl ?_
    go_simp
    refine calm_skip rfl (by rfl) ?_
    go_simp
    refine calm_skip rfl (by rfl) ?_
    go_simp
    refine calm_skip rfl (by rfl) ?_
    go_simp
    refine calm_do (.bool true) rfl (by rfl) (fun w' hw' => ?_) ?_
    ·go_simp
    go_simp
    refine calm_nil (hK.out _ ?_)
    clear hK K
    refine wpAnyH_done (by kernel_rfl) ?_ _
    have HC7 : Hid (CutAt w1 G B L (100 + (k + 1) * 4000) mb s w7) := ⟨F, S, K, M, d, g, st, nu, hb, db, c1m, c2m, h.more (by omega) (by omega), hl, hm⟩
    clear h hm hO
    skip
    go_wp2_with fail
    go_roundw
    case rel => exact ⟨k + 1, s, by omega, rfl, by go_num, HC7⟩
    case measure => simp [RowKit.intOf]; omega
   by_cases hk1 : 1 < kind
   ·have hKS : Hid True := trivial
    refine held_begin (by kernel_rfl) ?_
    refine held_reads (rs := [0, 1, 2, 3, 4, 5, 6, 7, 8, 9, 10, 11, 12, 13]) (fuel := 8) (by kernel_rfl) (fun c d v a w h => by cases d <;> exact h) (by kernel_rfl) (Since.drew _) (fun K hK => ?_)
    refine calm_do (.pointer (some ⟨ob, 1, none⟩)) rfl (by rfl) (fun w' hw' => ?_) ?_
    ·go_simp
    go_simp
    refine calm_do (.int .i64 (j : Int)) rfl (by rfl) (fun w' hw' => ?_) ?_
    ·have cz := (hO.below hw').o1
     go_simp
    go_simp
    refine calm_do (.bool false) rfl (by rfl) (fun w' hw' => ?_) ?_
    ·go_simp
    go_simp
    refine calm_move _ rfl (by rfl) rfl ?_
    go_simp
    refine calm_do (.pointer (some ⟨ob, 1, none⟩)) rfl (by rfl) (fun w' hw' => ?_) ?_
    ·go_simp
    go_simp
    refine calm_do (.int .i64 (j : Int)) rfl (by rfl) (fun w' hw' => ?_) ?_
    ·have cz := (hO.below hw').o1
     go_simp
    go_simp
    refine calm_move _ rfl (by rfl) rfl ?_
    go_simp
    refine calm_do (.bool false) rfl (by rfl) (fun w' hw' => ?_) ?_
    ·go_simp
    go_simp
    refine calm_do (.bool false) rfl (by rfl) (fun w' hw' => ?_) ?_
    ·go_simp
    go_simp
    refine calm_move _ rfl (by rfl) rfl ?_
    go_simp
    refine calm_do (.pointer (some ⟨ob, 5, none⟩)) rfl (by rfl) (fun w' hw' => ?_) ?_
    ·go_simp
    go_simp
    refine calm_do (.slice ra rl rc) rfl (by rfl) (fun w' hw' => ?_) ?_
    ·have cz := (hO.below hw').o5
     go_simp
    go_simp
    refine calm_do (.int .i64 (rl : Int)) rfl (by rfl) (fun w' hw' => ?_) ?_
    ·go_simp
    go_simp
    refine calm_move _ rfl (by rfl) rfl ?_
    go_simp
    refine calm_nil (hK.out _ ?_)
    clear hK K
    refine held_call (i := 14) (fuel := 7) (by kernel_rfl) rfl (by rfl) (fun K hK => ?_)
    go_simp
    refine (stCap_any w6.drew h.at_.drew).mono ?_
    rintro e w7 ⟨rfl, qq0⟩
    have q7 : Since w6 w7 := Since.trans (Since.drew _) qq0
    refine hK _ _ q7 ?_
    clear hK K qq0
    replace h := h.below q7
    replace hm := hm.below q7
    replace hO := hO.below q7
    clear q7
    refine held_reads (rs := [15, 16, 17, 18, 19, 20, 21]) (fuel := 0) (by kernel_rfl) (fun c d v a w h => by cases d <;> exact h) (by kernel_rfl) (Since.refl _) (fun K hK => ?_)
    go_simp
    refine calm_do (.bool false) rfl (by rfl) (fun w' hw' => ?_) ?_
    ·go_simp
    go_simp
    refine calm_do (.bool false) rfl (by rfl) (fun w' hw' => ?_) ?_
    ·go_simp
    go_simp
    refine calm_move _ rfl (by rfl) rfl ?_
    go_simp
    refine calm_do (.pointer (some ⟨ob, 0, none⟩)) rfl (by rfl) (fun w' hw' => ?_) ?_
    ·go_simp
    go_simp
    refine calm_do (.int .i64 kind) rfl (by rfl) (fun w' hw' => ?_) ?_
    ·have cz := (hO.below hw').o0
     go_simp
    go_simp
    refine calm_do (.bool true) rfl (by rfl) (fun w' hw' => ?_) ?_
    ·go_simp
    go_simp
    refine calm_do (.bool true) rfl (by rfl) (fun w' hw' => ?_) ?_
    ·go_simp
    go_simp
    refine calm_nil (hK.out _ ?_)
    clear hK K
    refine wpAnyH_done (by kernel_rfl) ?_ _
    have HC7 : Hid (CutAt w1 G B L (100 + (k + 1) * 4000) mb s w7) := ⟨F, S, K, M, d, g, st, nu, hb, db, c1m, c2m, h.more (by omega) (by omega), hl, hm⟩
    clear h hm hO
    skip
    go_wp2_with fail
    go_roundw
    case rel => exact ⟨k + 1, s, by omega, rfl, by go_num, HC7⟩
    case measure => simp [RowKit.intOf]; omega
   refine held_begin (by kernel_rfl) ?_
   refine held_reads (rs := [0, 1, 2, 3, 4, 5, 6, 7, 8, 9, 10, 11, 12, 13]) (fuel := 8) (by kernel_rfl) (fun c d v a w h => by cases d <;> exact h) (by kernel_rfl) (Since.drew _) (fun K hK => ?_)
   refine calm_do (.pointer (some ⟨ob, 1, none⟩)) rfl (by rfl) (fun w' hw' => ?_) ?_
   ·go_simp
   go_simp
   refine calm_do (.int .i64 (j : Int)) rfl (by rfl) (fun w' hw' => ?_) ?_
   ·have cz := (hO.below hw').o1
    go_simp
   go_simp
   refine calm_do (.bool false) rfl (by rfl) (fun w' hw' => ?_) ?_
   ·go_simp
   go_simp
   refine calm_move _ rfl (by rfl) rfl ?_
   go_simp
   refine calm_do (.pointer (some ⟨ob, 1, none⟩)) rfl (by rfl) (fun w' hw' => ?_) ?_
   ·go_simp
   go_simp
   refine calm_do (.int .i64 (j : Int)) rfl (by rfl) (fun w' hw' => ?_) ?_
   ·have cz := (hO.below hw').o1
    go_simp
   go_simp
   refine calm_move _ rfl (by rfl) rfl ?_
   go_simp
   refine calm_do (.bool false) rfl (by rfl) (fun w' hw' => ?_) ?_
   ·go_simp
   go_simp
   refine calm_do (.bool false) rfl (by rfl) (fun w' hw' => ?_) ?_
   ·go_simp
   go_simp
   refine calm_move _ rfl (by rfl) rfl ?_
   go_simp
   refine calm_do (.pointer (some ⟨ob, 5, none⟩)) rfl (by rfl) (fun w' hw' => ?_) ?_
   ·go_simp
   go_simp
   refine calm_do (.slice ra rl rc) rfl (by rfl) (fun w' hw' => ?_) ?_
   ·have cz := (hO.below hw').o5
    go_simp
   go_simp
   refine calm_do (.int .i64 (rl : Int)) rfl (by rfl) (fun w' hw' => ?_) ?_
   ·go_simp
   go_simp
   refine calm_move _ rfl (by rfl) rfl ?_
   go_simp
   refine calm_nil (hK.out _ ?_)
   clear hK K
   refine held_call (i := 14) (fuel := 7) (by kernel_rfl) rfl (by rfl) (fun K hK => ?_)
   go_simp
   refine (stCap_any w6.drew h.at_.drew).mono ?_
   rintro e w7 ⟨rfl, qq0⟩
   have q7 : Since w6 w7 := Since.trans (Since.drew _) qq0
   refine hK _ _ q7 ?_
   clear hK K qq0
   replace h := h.below q7
   replace hm := hm.below q7
   replace hO := hO.below q7
   clear q7
   refine held_reads (rs := [15, 16, 17, 18, 19, 20, 21]) (fuel := 0) (by kernel_rfl) (fun c d v a w h => by cases d <;> exact h) (by kernel_rfl) (Since.refl _) (fun K hK => ?_)
   go_simp
   refine calm_do (.bool false) rfl (by rfl) (fun w' hw' => ?_) ?_
   ·go_simp
   go_simp
   refine calm_do (.bool false) rfl (by rfl) (fun w' hw' => ?_) ?_
   ·go_simp
   go_simp
   refine calm_move _ rfl (by rfl) rfl ?_
   go_simp
   refine calm_do (.pointer (some ⟨ob, 0, none⟩)) rfl (by rfl) (fun w' hw' => ?_) ?_
   ·go_simp
   go_simp
   refine calm_do (.int .i64 kind) rfl (by rfl) (fun w' hw' => ?_) ?_
   ·have cz := (hO.below hw').o0
    go_simp
   go_simp
   refine calm_do (.bool false) rfl (by rfl) (fun w' hw' => ?_) ?_
   ·go_simp
   go_simp
   refine calm_do (.bool false) rfl (by rfl) (fun w' hw' => ?_) ?_
   ·go_simp
   go_simp
   refine calm_nil (hK.out _ ?_)
   clear hK K
   refine wpAnyH_done (by kernel_rfl) ?_ _
   have b0 := hm.b0
   have b1 := hm.b1
   have hcp := refCopy11_any hb db L c1m c2m M (by omega) (by omega) w7 hm.m
   unfold mapV at hcp
   go_wp2_with fail
   refine hcp.mono ?_
   rintro e w8 ⟨hb2, db2, c1n, c2n, hnew, rfl, hm8, q8⟩
   have hN := mb_new (c1 := c1n) (c2 := c2n) h hm8 q8 hnew
   have l1 := hm.fm.lt
   have l2 := hm.fh.lt
   have l3 := hm.fd.lt
   have l4 := hO.f.lt
   have l5 := q8.size
   have i1 : mb ≠ hb2 := by omega
   have i2 : mb ≠ db2 := by omega
   have i3 : hb ≠ hb2 := by omega
   have i4 : hb ≠ db2 := by omega
   have i5 : db ≠ hb2 := by omega
   have i6 : db ≠ db2 := by omega
   have i7 : mb ≠ w8.heap.size := by omega
   have i8 : hb ≠ w8.heap.size := by omega
   have i9 : db ≠ w8.heap.size := by omega
   have i10 : ob ≠ hb2 := by omega
   have i11 : ob ≠ db2 := by omega
   have q9 := btrans q8 (below_one w8 (.cells #[.slice (some ⟨hb2, 0, none⟩) L c1n, .slice (some ⟨db2, 0, none⟩) L c2n] 40))
   replace h := h.below q9
   replace hm := hm.below q9
   replace hO := hO.below q9
   clear hcp b0 b1 hm8 q8 q9 hnew l1 l2 l3 l4 l5
   by_cases k0 : kind = 0
   ·subst k0
    have hch := h.change j (by omega) rz ra rl rc (h.old hrow) hrb (by omega) (by omega) (by omega)
    have o0 := hO.o0
    have o1 := hO.o1
    have o5 := hO.o5
    have hisM := h.isB
    have hrest := h.rest
    go_wp2_with fail
    clear o0 o1 o5 h
    generalize w8.alloc (.cells #[.slice (some ⟨hb2, 0, none⟩) L c1n, .slice (some ⟨db2, 0, none⟩) L c2n] 40) = w9 at *
    generalize w8.heap.size = nb at *
    refine hch.mono ?_
    rintro e w10 ⟨r, rfl, hc⟩
    clear hch
    rcases hc with ⟨F1, S1, K1, st1, nu1, rfl, h1, hst, q, _, _, _, _, _⟩ | ⟨F1, S1, K1, nu1, rfl, h1, q, _, _, _, _, _, _⟩ | ⟨F1, S1, K1, M1, nu1, rfl, hcl, hM1, hs, q, _⟩
    ·rw [hl] at hst
     replace hm := hm.step q
     replace hN := hN.step q
     replace hO := hO.step q
     have k1 := conv_row (P := Tryz.prog) Tryz.underlying43 Tryz.underlying5 Tryz.underlying9 (hrow.below h1.bel (Nat.le_refl _))
     have n0 := hN.b0
     have n1 := hN.b1
     have o1 := hO.o1
     have o5 := hO.o5
     have hpt := refPut11_any hb2 db2 L c1n c2n M j hj rz w10 hN.m
     unfold mapV at hpt
     go_wp2_with fail
     refine hpt.mono ?_
     rintro e w11 ⟨⟨r, rfl⟩, hm11, t11⟩
     have hN' : MB w1 F1 d s g L nb hb2 db2 c1n c2n (updM M j (some rz)) w11 := ⟨hm11, hN.vb.turned t11 (by rintro (e | e); exact hN.ne.1 e; exact hN.ne.2 e), hN.fm.turned t11, hN.fh.turned t11, hN.fd.turned t11, hN.ne⟩
     replace hm := hm.turned t11 (by rintro (e | e); exact i1 e; exact i2 e) (by rintro (e | e); exact i3 e; exact i4 e) (by rintro (e | e); exact i5 e; exact i6 e)
     replace hO := hO.turned t11 (by rintro (e | e); exact i10 e; exact i11 e)
     replace h1 := h1.aside t11 hN.two
     clear hN
     have hN := hN'
     clear hN' hpt hm11 t11 n0 n1 o1 o5 q k1
     obtain ⟨hA, tA⟩ := hm.assign hN i1 i2
     have h12 := h1.aside tA (fun x hx => by rw [hx]; exact hm.fm)
     have n0 := hN.b0
     have n1 := hN.b1
     have x0 := hm.b0
     have x1 := hm.b1
     have y0 := hm.vb.soft 0
     have y1 := hm.vb.soft 1
     have z0 := hA.b0
     have z1 := hA.b1
     have hal := all11_any h12 hb2 db2 c1n c2n (M' := updM M j (some rz)) (by rw [hst]; exact hA.m) h12.isB
     rw [hst] at hal
     unfold mapV at hal
     rw [sameM_self] at hal
     clear hm hN h1 tA
     go_wp2_with fail
     refine hal.mono ?_
     rintro e w13 ⟨rfl, q13⟩
     have HC7 : Hid (CutAt w1 G B L (100 + (k + 1) * 4000) mb s w13) := ⟨F1, S1, K1, _, d, g, st1, nu1, hb2, db2, c1n, c2n, (h12.below q13).more (by omega) (by omega), hst, hA.below q13⟩
     clear hal h12 hA q13 n0 n1 x0 x1 y0 y1 z0 z1 hO
     go_wp2_with fail
     go_roundw
     case rel => exact ⟨k + 1, s, by omega, rfl, by go_num, HC7⟩
     case measure => simp [RowKit.intOf]; omega
    ·replace hm := hm.step q
     replace hN := hN.step q
     replace hO := hO.step q
     have k1 := conv_row (P := Tryz.prog) Tryz.underlying43 Tryz.underlying5 Tryz.underlying9 (hrow.below h1.bel (Nat.le_refl _))
     have n0 := hN.b0
     have n1 := hN.b1
     have o1 := hO.o1
     have o5 := hO.o5
     have hpt := refPut11_any hb2 db2 L c1n c2n M j hj rz w10 hN.m
     unfold mapV at hpt
     go_wp2_with fail
     refine hpt.mono ?_
     rintro e w11 ⟨⟨r, rfl⟩, hm11, t11⟩
     have hN' : MB w1 F1 d s g L nb hb2 db2 c1n c2n (updM M j (some rz)) w11 := ⟨hm11, hN.vb.turned t11 (by rintro (e | e); exact hN.ne.1 e; exact hN.ne.2 e), hN.fm.turned t11, hN.fh.turned t11, hN.fd.turned t11, hN.ne⟩
     replace hm := hm.turned t11 (by rintro (e | e); exact i1 e; exact i2 e) (by rintro (e | e); exact i3 e; exact i4 e) (by rintro (e | e); exact i5 e; exact i6 e)
     replace hO := hO.turned t11 (by rintro (e | e); exact i10 e; exact i11 e)
     replace h1 := h1.aside t11 hN.two
     clear hN
     have hN := hN'
     clear hN' hpt hm11 t11 n0 n1 o1 o5 q k1
     obtain ⟨hN2, tN⟩ := hN.assign hm (fun e => i8 e.symm) (fun e => i9 e.symm)
     have h12 := h1.aside tN (fun x hx => by rw [hx]; exact hN.fm)
     have hm2 := hm.turned tN i7 i8 i9
     obtain ⟨hA, tA⟩ := hm2.assign hN2 hm.ne.1 hm.ne.2
     have h13 := h12.aside tA (fun x hx => by rw [hx]; exact hm2.fm)
     have a0 := hm.b0
     have a1 := hm.b1
     have d0 := hN.b0
     have d1 := hN.b1
     have e0 := hN.vb.soft 0
     have e1 := hN.vb.soft 1
     have n0 := hN2.b0
     have n1 := hN2.b1
     have x0 := hm2.b0
     have x1 := hm2.b1
     have y0 := hm2.vb.soft 0
     have y1 := hm2.vb.soft 1
     have z0 := hA.b0
     have z1 := hA.b1
     have hal := all11_any h13 hb db c1m c2m (M' := M) (by rw [hl]; exact hA.m) h13.isB
     rw [hl] at hal
     unfold mapV at hal
     rw [sameM_self] at hal
     clear hm hN hN2 hm2 h1 h12 tA tN
     go_wp2_with fail
     refine hal.mono ?_
     rintro e w13 ⟨rfl, q13⟩
     have HC7 : Hid (CutAt w1 G B L (100 + (k + 1) * 4000) mb s w13) := ⟨F1, S1, K1, _, d, g, st, nu1, hb, db, c1m, c2m, (h13.below q13).more (by omega) (by omega), hl, hA.below q13⟩
     clear hal h13 hA q13 n0 n1 x0 x1 y0 y1 z0 z1 a0 a1 d0 d1 e0 e1 hO
     go_wp2_with fail
     go_roundw
     case rel => exact ⟨k + 1, s, by omega, rfl, by go_num, HC7⟩
     case measure => simp [RowKit.intOf]; omega
    ·have hrdy : rdyS true L (j : Int) = 70 := by unfold rdyS; simp
     have hrest1 : ∀ i : Int, (L : Int) ≤ i → M1 i = none := fun i hi => by
      have e := hrest i (by omega)
      rcases hM1 with rfl | rfl
      ·exact e
      ·rw [updM_ne _ (by omega)]; exact e
     replace hm := hm.step q
     replace hN := hN.step q
     replace hO := hO.step q
     have k1 := conv_row (P := Tryz.prog) Tryz.underlying43 Tryz.underlying5 Tryz.underlying9 (hrow.below hcl.bel (Nat.le_refl _))
     have n0 := hN.b0
     have n1 := hN.b1
     have o1 := hO.o1
     have o5 := hO.o5
     have hpt := refPut11_any hb2 db2 L c1n c2n M j hj rz w10 hN.m
     unfold mapV at hpt
     go_wp2_with fail
     refine hpt.mono ?_
     rintro e w11 ⟨⟨r, rfl⟩, hm11, t11⟩
     have hN' : MB w1 F1 d s g L nb hb2 db2 c1n c2n (updM M j (some rz)) w11 := ⟨hm11, hN.vb.turned t11 (by rintro (e | e); exact hN.ne.1 e; exact hN.ne.2 e), hN.fm.turned t11, hN.fh.turned t11, hN.fd.turned t11, hN.ne⟩
     replace hm := hm.turned t11 (by rintro (e | e); exact i1 e; exact i2 e) (by rintro (e | e); exact i3 e; exact i4 e) (by rintro (e | e); exact i5 e; exact i6 e)
     replace hO := hO.turned t11 (by rintro (e | e); exact i10 e; exact i11 e)
     replace hcl := hcl.aside t11 hN.two
     have hsb := hs.sb.aside t11 hN.two
     clear hN
     have hN := hN'
     clear hN' hpt hm11 t11 n0 n1 o1 o5 q hs k1
     have o1 := hO.o1
     have hcn := stChange_no (j : Int) none 0 0 w11 hsb (by rw [hl, hrdy]; decide)
     rw [hl, hrdy] at hcn
     go_wp2_with fail
     refine hcn.mono ?_
     rintro e w12 ⟨rfl, q12⟩
     replace hcl := hcl.below q12
     replace hm := hm.below q12
     replace hN := hN.below q12
     clear hcn o1 hsb q12
     have har := hcl.arm 0 0 (i64_small (by decide)) (i64_small (by decide))
     go_wp2_with fail
     refine har.mono ?_
     rintro e w13 ⟨⟨r, rfl⟩, S13, hcl13, t13⟩
     replace hm := hm.turned t13 hm.fm.f hm.fh.f hm.fd.f
     replace hN := hN.turned t13 hN.fm.f hN.fh.f hN.fd.f
     clear har t13 hcl
     have hop := open11_new hcl13 L (by omega) (by omega) hrest1
     go_wp2_with fail
     refine hop.mono ?_
     rintro e w14 ⟨d2, s2, g2, st2, nu2, ⟨⟨hd2, hs2, hg2⟩, hl2'⟩, rfl, h14, t14⟩
     replace hm := (hm.other hd2 hs2 hg2).turned t14 hm.fm.f hm.fh.f hm.fd.f
     replace hN := (hN.other hd2 hs2 hg2).turned t14 hN.fm.f hN.fh.f hN.fd.f
     clear hop hcl13 t14 hd2 hs2 hg2
     have x0 := hm.b0
     have x1 := hm.b1
     have hal := all11_any h14 hb db c1m c2m (M' := M) (by rw [hl2']; exact hm.m) hisM
     rw [hl2'] at hal
     unfold mapV at hal
     cases hsm : sameM L M1 M
     ·have hM1' : M1 = updM M j (some rz) := by
       rcases hM1 with e | e
       ·rw [e, sameM_self] at hsm; cases hsm
       ·exact e
      rw [hsm] at hal
      go_wp2_with fail
      refine hal.mono ?_
      rintro e w15 ⟨rfl, q15⟩
      replace h14 := h14.below q15
      replace hm := hm.below q15
      replace hN := hN.below q15
      clear hal q15 x0 x1 hsm
      obtain ⟨hA, tA⟩ := hm.assign hN i1 i2
      have h16 := h14.aside tA (fun x hx => by rw [hx]; exact hm.fm)
      have n0 := hN.b0
      have n1 := hN.b1
      have x0 := hm.b0
      have x1 := hm.b1
      have y0 := hm.vb.soft 0
      have y1 := hm.vb.soft 1
      have z0 := hA.b0
      have z1 := hA.b1
      have hal := all11_any h16 hb2 db2 c1n c2n (M' := updM M j (some rz)) (by rw [hl2']; exact hA.m) (by rw [← hM1']; exact h16.isB)
      rw [hl2', hM1', sameM_self] at hal
      unfold mapV at hal
      clear hm hN h14 tA
      go_wp2_with fail
      refine hal.mono ?_
      rintro e w17 ⟨rfl, q17⟩
      have HC7 : Hid (CutAt w1 G B L (100 + (k + 1) * 4000) mb s2 w17) := ⟨F1, _, K1, M1, d2, g2, st2, nu2, hb2, db2, c1n, c2n, (h16.below q17).more (by omega) (by omega), hl2', by rw [hM1']; exact hA.below q17⟩
      clear hal h16 hA q17 n0 n1 x0 x1 y0 y1 z0 z1 hO
      go_wp2_with fail
      go_roundw
      case rel => exact ⟨k + 1, s2, by omega, rfl, by go_num, HC7⟩
      case measure => simp [RowKit.intOf]; omega
     ·rw [hsm] at hal
      go_wp2_with fail
      refine hal.mono ?_
      rintro e w15 ⟨rfl, q15⟩
      have HC7 : Hid (CutAt w1 G B L (100 + (k + 1) * 4000) mb s2 w15) := ⟨F1, _, K1, M1, d2, g2, st2, nu2, hb, db, c1m, c2m, (h14.below q15).more (by omega) (by omega), hl2', (hm.below q15).eq (fun j hj => (sameM_yes hsm j hj).symm)⟩
      clear hal h14 hm hN q15 x0 x1 hO hsm
      go_wp2_with fail
      go_roundw
      case rel => exact ⟨k + 1, s2, by omega, rfl, by go_num, HC7⟩
      case measure => simp [RowKit.intOf]; omega
   ·have k0' : (kind == 0) = false := by simp [k0]
    have hch := h.unmap j (by omega) (by omega)
    have o0 := hO.o0
    have o1 := hO.o1
    have o5 := hO.o5
    have hisM := h.isB
    have hrest := h.rest
    go_wp2_with fail
    clear o0 o1 o5 h
    generalize w8.alloc (.cells #[.slice (some ⟨hb2, 0, none⟩) L c1n, .slice (some ⟨db2, 0, none⟩) L c2n] 40) = w9 at *
    generalize w8.heap.size = nb at *
    refine hch.mono ?_
    rintro e w10 ⟨r, rfl, hc⟩
    clear hch
    rcases hc with ⟨F1, S1, K1, st1, nu1, rfl, h1, hst, q, _, _, _, _, _⟩ | ⟨F1, S1, K1, M1, nu1, rfl, hcl, hM1, hs, q, _⟩
    ·rw [hl] at hst
     replace hm := hm.step q
     replace hN := hN.step q
     replace hO := hO.step q
     have n0 := hN.b0
     have n1 := hN.b1
     have o1 := hO.o1
     have o5 := hO.o5
     have hpt := refDrop11_any hb2 db2 L c1n c2n M j hj w10 hN.m
     unfold mapV at hpt
     go_wp2_with fail
     refine hpt.mono ?_
     rintro e w11 ⟨⟨r, rfl⟩, hm11, t11⟩
     have hN' : MB w1 F1 d s g L nb hb2 db2 c1n c2n (updM M j none) w11 := ⟨hm11, hN.vb.turned t11 (by rintro (e | e); exact hN.ne.1 e; exact hN.ne.2 e), hN.fm.turned t11, hN.fh.turned t11, hN.fd.turned t11, hN.ne⟩
     replace hm := hm.turned t11 (by rintro (e | e); exact i1 e; exact i2 e) (by rintro (e | e); exact i3 e; exact i4 e) (by rintro (e | e); exact i5 e; exact i6 e)
     replace hO := hO.turned t11 (by rintro (e | e); exact i10 e; exact i11 e)
     replace h1 := h1.aside t11 hN.two
     clear hN
     have hN := hN'
     clear hN' hpt hm11 t11 n0 n1 o1 o5 q
     obtain ⟨hA, tA⟩ := hm.assign hN i1 i2
     have h12 := h1.aside tA (fun x hx => by rw [hx]; exact hm.fm)
     have n0 := hN.b0
     have n1 := hN.b1
     have x0 := hm.b0
     have x1 := hm.b1
     have y0 := hm.vb.soft 0
     have y1 := hm.vb.soft 1
     have z0 := hA.b0
     have z1 := hA.b1
     have hal := all11_any h12 hb2 db2 c1n c2n (M' := updM M j none) (by rw [hst]; exact hA.m) h12.isB
     rw [hst] at hal
     unfold mapV at hal
     rw [sameM_self] at hal
     clear hm hN h1 tA
     go_wp2_with fail
     refine hal.mono ?_
     rintro e w13 ⟨rfl, q13⟩
     have HC7 : Hid (CutAt w1 G B L (100 + (k + 1) * 4000) mb s w13) := ⟨F1, S1, K1, _, d, g, st1, nu1, hb2, db2, c1n, c2n, (h12.below q13).more (by omega) (by omega), hst, hA.below q13⟩
     clear hal h12 hA q13 n0 n1 x0 x1 y0 y1 z0 z1 hO
     go_wp2_with fail
     go_roundw
     case rel => exact ⟨k + 1, s, by omega, rfl, by go_num, HC7⟩
     case measure => simp [RowKit.intOf]; omega
    ·have hrdy : rdyS true L (j : Int) = 70 := by unfold rdyS; simp
     have hrest1 : ∀ i : Int, (L : Int) ≤ i → M1 i = none := fun i hi => by
      have e := hrest i (by omega)
      rcases hM1 with rfl | rfl
      ·exact e
      ·rw [updM_ne _ (by omega)]; exact e
     replace hm := hm.step q
     replace hN := hN.step q
     replace hO := hO.step q
     have n0 := hN.b0
     have n1 := hN.b1
     have o1 := hO.o1
     have o5 := hO.o5
     have hpt := refDrop11_any hb2 db2 L c1n c2n M j hj w10 hN.m
     unfold mapV at hpt
     go_wp2_with fail
     refine hpt.mono ?_
     rintro e w11 ⟨⟨r, rfl⟩, hm11, t11⟩
     have hN' : MB w1 F1 d s g L nb hb2 db2 c1n c2n (updM M j none) w11 := ⟨hm11, hN.vb.turned t11 (by rintro (e | e); exact hN.ne.1 e; exact hN.ne.2 e), hN.fm.turned t11, hN.fh.turned t11, hN.fd.turned t11, hN.ne⟩
     replace hm := hm.turned t11 (by rintro (e | e); exact i1 e; exact i2 e) (by rintro (e | e); exact i3 e; exact i4 e) (by rintro (e | e); exact i5 e; exact i6 e)
     replace hO := hO.turned t11 (by rintro (e | e); exact i10 e; exact i11 e)
     replace hcl := hcl.aside t11 hN.two
     have hsb := hs.sb.aside t11 hN.two
     clear hN
     have hN := hN'
     clear hN' hpt hm11 t11 n0 n1 o1 o5 q hs
     have o1 := hO.o1
     have hcn := stChange_no (j : Int) none 0 0 w11 hsb (by rw [hl, hrdy]; decide)
     rw [hl, hrdy] at hcn
     go_wp2_with fail
     refine hcn.mono ?_
     rintro e w12 ⟨rfl, q12⟩
     replace hcl := hcl.below q12
     replace hm := hm.below q12
     replace hN := hN.below q12
     clear hcn o1 hsb q12
     have har := hcl.arm 0 0 (i64_small (by decide)) (i64_small (by decide))
     go_wp2_with fail
     refine har.mono ?_
     rintro e w13 ⟨⟨r, rfl⟩, S13, hcl13, t13⟩
     replace hm := hm.turned t13 hm.fm.f hm.fh.f hm.fd.f
     replace hN := hN.turned t13 hN.fm.f hN.fh.f hN.fd.f
     clear har t13 hcl
     have hop := open11_new hcl13 L (by omega) (by omega) hrest1
     go_wp2_with fail
     refine hop.mono ?_
     rintro e w14 ⟨d2, s2, g2, st2, nu2, ⟨⟨hd2, hs2, hg2⟩, hl2'⟩, rfl, h14, t14⟩
     replace hm := (hm.other hd2 hs2 hg2).turned t14 hm.fm.f hm.fh.f hm.fd.f
     replace hN := (hN.other hd2 hs2 hg2).turned t14 hN.fm.f hN.fh.f hN.fd.f
     clear hop hcl13 t14 hd2 hs2 hg2
     have x0 := hm.b0
     have x1 := hm.b1
     have hal := all11_any h14 hb db c1m c2m (M' := M) (by rw [hl2']; exact hm.m) hisM
     rw [hl2'] at hal
     unfold mapV at hal
     cases hsm : sameM L M1 M
     ·have hM1' : M1 = updM M j none := by
       rcases hM1 with e | e
       ·rw [e, sameM_self] at hsm; cases hsm
       ·exact e
      rw [hsm] at hal
      go_wp2_with fail
      refine hal.mono ?_
      rintro e w15 ⟨rfl, q15⟩
      replace h14 := h14.below q15
      replace hm := hm.below q15
      replace hN := hN.below q15
      clear hal q15 x0 x1 hsm
      obtain ⟨hA, tA⟩ := hm.assign hN i1 i2
      have h16 := h14.aside tA (fun x hx => by rw [hx]; exact hm.fm)
      have n0 := hN.b0
      have n1 := hN.b1
      have x0 := hm.b0
      have x1 := hm.b1
      have y0 := hm.vb.soft 0
      have y1 := hm.vb.soft 1
      have z0 := hA.b0
      have z1 := hA.b1
      have hal := all11_any h16 hb2 db2 c1n c2n (M' := updM M j none) (by rw [hl2']; exact hA.m) (by rw [← hM1']; exact h16.isB)
      rw [hl2', hM1', sameM_self] at hal
      unfold mapV at hal
      clear hm hN h14 tA
      go_wp2_with fail
      refine hal.mono ?_
      rintro e w17 ⟨rfl, q17⟩
      have HC7 : Hid (CutAt w1 G B L (100 + (k + 1) * 4000) mb s2 w17) := ⟨F1, _, K1, M1, d2, g2, st2, nu2, hb2, db2, c1n, c2n, (h16.below q17).more (by omega) (by omega), hl2', by rw [hM1']; exact hA.below q17⟩
      clear hal h16 hA q17 n0 n1 x0 x1 y0 y1 z0 z1 hO
      go_wp2_with fail
      go_roundw
      case rel => exact ⟨k + 1, s2, by omega, rfl, by go_num, HC7⟩
      case measure => simp [RowKit.intOf]; omega
     ·rw [hsm] at hal
      go_wp2_with fail
      refine hal.mono ?_
      rintro e w15 ⟨rfl, q15⟩
      have HC7 : Hid (CutAt w1 G B L (100 + (k + 1) * 4000) mb s2 w15) := ⟨F1, _, K1, M1, d2, g2, st2, nu2, hb, db, c1m, c2m, (h14.below q15).more (by omega) (by omega), hl2', (hm.below q15).eq (fun j hj => (sameM_yes hsm j hj).symm)⟩
      clear hal h14 hm hN q15 x0 x1 hO hsm
      go_wp2_with fail
      go_roundw
      case rel => exact ⟨k + 1, s2, by omega, rfl, by go_num, HC7⟩
      case measure => simp [RowKit.intOf]; omega
  ·obtain rfl : k = sl := by omega
   have hge : ¬ (k : Int) < (k : Int) := by omega
   have HQ : Hid (Below w.heap.size w wr) := btrans Q1.out QW.out
   go_wp2_with fail
   refine (awake11_any _).mono ?_
   rintro e w5 ⟨rfl, q5⟩
   go_wp2_with fail
   go_ret
   exact ⟨rfl, btrans HQ.out q5⟩
end Go.Proofs.YtbafkakhhelcmaaGreat
