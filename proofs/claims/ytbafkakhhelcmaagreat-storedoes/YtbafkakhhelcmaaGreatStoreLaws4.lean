/-
 Layer 11's laws: the walk of StoreDoes. (tools/gen/store_does.py)
-/
import Derived.Test.YtbafkakhhelcmaaGreatStoreDo2
import Derived.Deep.CutRange
import Derived.Deep.CutBlock
namespace Go.Proofs.YtbafkakhhelcmaaGreat
open Go.RowKit Go.Maps
set_option linter.unusedVariables false
set_option maxRecDepth 8192

/-- Before the script: ill tells of the first k blocks whether they are marked. -/
def BadI (W : World) (G : Geo) (B : CB) (F : Nat → Prop) (N : Nat) (S : CS) (d s g : Nat) (st : List Int) (nu : Int) (L mb hb db ib nb k : Nat) (w : World) : Prop :=
 ∃ ill : Nat → Bool, LS W G B F N S (fun _ => .no) (fun _ => none) 0 d s g st nu w ∧ MB W F d s g L mb hb db L L (fun _ => none) w ∧ VRow w ib 4 nb (fun i => .bool (ill i)) ∧ Free W F d s g ib w ∧ ∀ y : Nat, y < k → ill y = S.bd y
set_option maxHeartbeats 12800000 in
set_option maxRecDepth 100000 in
theorem walk_storeDoes (b p s n f : Int) (ba : Option Addr) (bl bc : Nat) (bz : List Int) (lebs : Int) (sa : Option Addr) (sl sc : Nat) (ops : Nat → SOp) (w : World) (hbad : Row .i64 w ba bl bc bz) (hbw : ∀ n ∈ bz, (Lit.int .i64 n).wf = true) (hsc : SScriptAt w sa sl sc ops) :
  Calls Tryz.prog 3 #[.agg #[.int .i64 b, .int .i64 p, .int .i64 s, .int .i64 n, .int .i64 f], .slice ba bl bc, .int .i64 lebs, .slice sa sl sc] w fun e w' => e = .returned (.bool true) ∧ Below w.heap.size w w' := by
 have hbm : bl ≤ maxLen := Nat.le_trans hbad.hcap hbad.hmax
 unfold maxLen at hbm
 cases hsm : small11 b p s n f
 ·go_enter Tryz.func3, Tryz.ntmps3
  go_wp2_with fail
  refine (small11_any b p s n f _).mono ?_
  rintro e w1 ⟨rfl, q1⟩
  rw [hsm]
  go_wp2_with fail
  go_ret
  exact ⟨rfl, btrans (below_one _ _) q1⟩
 by_cases hok : bl ≤ 20 ∧ 1 ≤ lebs ∧ lebs ≤ 12
 case neg =>
  go_enter Tryz.func3, Tryz.ntmps3
  go_wp2_with fail
  refine (small11_any b p s n f _).mono ?_
  rintro e w1 ⟨rfl, q1⟩
  rw [hsm]
  have hfa := sfew_any _ _ _ ops _ (hsc.below (btrans (below_one _ _) q1) (Nat.le_refl _))
  have Q1 : Hid (Below w.heap.size w w1) := btrans (below_one _ _) q1
  clear q1 hsc hbad
  go_wp2_with fail
  all_goals first
   | (exfalso; omega)
   | (go_ret; exact ⟨rfl, Q1.out⟩)
 obtain ⟨hb20, hl1, hl2⟩ := hok
 obtain ⟨L, rfl⟩ := Int.eq_ofNat_of_zero_le (show 0 ≤ lebs by omega)
 obtain ⟨G, rfl, rfl, rfl, rfl, rfl, hb12, hp5, hR⟩ := geo11_ex hsm
 have hx1 : ¬ (20 : Int) < (bl : Int) := by omega
 have hx2 : ¬ (L : Int) < 1 := by omega
 have hx3 : ¬ (12 : Int) < (L : Int) := by omega
 have HSM : Hid (small11 G.b G.p G.s G.n G.f = true) := hsm
 clear hsm
 cases hfew : sfewB sl ops
 ·go_enter Tryz.func3, Tryz.ntmps3
  go_wp2_with fail
  refine (small11_any _ _ _ _ _ _).mono ?_
  rintro e w1 ⟨rfl, q1⟩
  rw [HSM.out]
  go_wp2_with fail
  refine (sfew_any _ _ _ ops _ (hsc.below (btrans (below_one _ _) q1) (Nat.le_refl _))).mono ?_
  rw [hfew]
  rintro e w2 ⟨rfl, rfl⟩
  go_wp2_with fail
  go_ret
  exact ⟨rfl, btrans (below_one _ _) q1⟩
 have HFEW : Hid (sl ≤ 80 ∧ ∀ i, i < sl → (ops i).rl ≤ 200) := by show _ ∧ _; unfold sfewB at hfew; exact of_decide_eq_true hfew
 by_cases hall : ∀ x ∈ bz, inB0 x G.b = true
 case neg =>
  obtain ⟨x, hx, hxb⟩ : ∃ x ∈ bz, inB0 x G.b = false := by
   by_cases hh : ∃ x ∈ bz, inB0 x G.b = false
   ·exact hh
   ·exact absurd (fun x hx => by
     cases h : inB0 x G.b
     ·exact absurd ⟨x, hx, h⟩ hh
     ·rfl) hall
  go_enter Tryz.func3, Tryz.ntmps3
  go_wp2_with fail
  refine (small11_any _ _ _ _ _ _).mono ?_
  rintro e w1 ⟨rfl, q1⟩
  rw [HSM.out]
  go_wp2_with fail
  refine (sfew_any _ _ _ ops _ (hsc.below (btrans (below_one _ _) q1) (Nat.le_refl _))).mono ?_
  rw [hfew]
  rintro e w2 ⟨rfl, rfl⟩
  obtain ⟨_, c0, c1, c2, c3, c4⟩ := (gbox_new w 23 G.b G.p G.s G.n G.f).below q1 (Nat.le_refl _)
  have hbad1 := hbad.below (btrans (below_one _ _) q1) (Nat.le_refl _)
  go_wp2_with fail
  refine (chipNew_bad G _ _ _ bz _ hbad1 hbw (by omega) hx hxb).mono ?_
  rintro e w3 ⟨rfl, q3⟩
  clear c0 c1 c2 c3 c4
  go_wp2_with fail
  refine (awake11_any _).mono ?_
  rintro e w4 ⟨rfl, q4⟩
  go_wp2_with fail
  go_ret
  exact ⟨rfl, btrans (btrans (btrans (below_one _ _) q1) q3) q4⟩
 go_enter Tryz.func3, Tryz.ntmps3
 go_wp2_with fail
 refine (small11_any _ _ _ _ _ _).mono ?_
 rintro e w1 ⟨rfl, q1⟩
 rw [HSM.out]
 go_wp2_with fail
 refine (sfew_any _ _ _ ops _ (hsc.below (btrans (below_one _ _) q1) (Nat.le_refl _))).mono ?_
 rw [hfew]
 rintro e w2 ⟨rfl, rfl⟩
 have hgb := (gbox_new w 23 G.b G.p G.s G.n G.f).below q1 (Nat.le_refl _)
 obtain ⟨_, c0, c1, c2, c3, c4⟩ := hgb
 have hgb := (gbox_new w 23 G.b G.p G.s G.n G.f).below q1 (Nat.le_refl _)
 have Q1 : Hid (Below w.heap.size w w1) := btrans (below_one _ _) q1
 have hbad1 := hbad.below Q1.out (Nat.le_refl _)
 have hsc1 := hsc.below Q1.out (Nat.le_refl _)
 clear q1 hbad hsc
 go_wp2_with fail
 clear c0 c1 c2 c3 c4 hx1 hx2 hx3
 refine (chipNew_yes G _ _ _ bz _ hbad1 hbw (by omega) hall).mono ?_
 rintro e w2 ⟨cc, rfl, hn⟩
 obtain ⟨B, F, ⟨rfl, hlim⟩, hh⟩ := newChip_lim (Below.refl _ _) hn
 have hcl := cl_new hh hlim
 clear hn hh hbad1
 have hop := open11_new hcl L (by omega) (by omega) (fun _ _ => rfl)
 clear hcl
 go_wp2_with fail
 refine hop.mono ?_
 rintro e w3 ⟨d, s, g, st, nu, ⟨_, hl⟩, rfl, h3, _⟩
 have h := h3
 clear hop h3
 go_wp2_with fail
 refine held_begin (by kernel_rfl) ?_
 refine held_reads (rs := [0, 1, 2, 3, 5]) (fuel := 10) (by kernel_rfl) (fun c d v a w h => by cases d <;> exact h) (by kernel_rfl) (Since.drew _) (fun K hK => ?_)
 refine calm_move _ rfl (by rfl) rfl ?_
 go_simp
 refine calm_do (.bool false) rfl (by rfl) (fun w' hw' => ?_) ?_
 ·go_simp
 go_simp
 refine calm_move _ rfl (by rfl) rfl ?_
 go_simp
 refine calm_move _ rfl (by rfl) rfl ?_
 go_simp
 refine calm_move _ rfl (by rfl) rfl ?_
 go_simp
 refine calm_nil (hK.out _ ?_)
 clear hK K
 refine held_call (i := 4) (fuel := 9) (by kernel_rfl) rfl (by rfl) (fun K hK => ?_)
 go_simp
 have hle := stLebs_any w3.drew h.at_.drew.sb
 rw [hl] at hle
 refine hle.mono ?_
 rintro e w4 ⟨rfl, rfl⟩
 refine hK _ _ (Since.drew _) ?_
 clear hK K hle
 replace h := h.below (Below.refl _ w3).drew
 generalize w3.drew = w4 at *
 refine held_reads (rs := [6, 7, 8, 9, 11]) (fuel := 4) (by kernel_rfl) (fun c d v a w h => by cases d <;> exact h) (by kernel_rfl) (Since.refl _) (fun K hK => ?_)
 go_simp
 refine calm_do (.bool false) rfl (by rfl) (fun w' hw' => ?_) ?_
 ·go_simp
 go_simp
 refine calm_do (.bool false) rfl (by rfl) (fun w' hw' => ?_) ?_
 ·go_simp
 go_simp
 refine calm_move _ rfl (by rfl) rfl ?_
 go_simp
 refine calm_move _ rfl (by rfl) rfl ?_
 go_simp
 refine calm_do (.agg #[.int .i64 G.b, .int .i64 G.p, .int .i64 (G.s : Nat), .int .i64 (G.n : Nat), .int .i64 (G.f : Nat)]) rfl (by rfl) (fun w' hw' => ?_) ?_
 ·obtain ⟨_, c0, c1, c2, c3, c4⟩ := hgb.below (h.bel.trans (hw'.mono h.bel.size)) (Nat.le_refl _)
  go_simp
 go_simp
 refine calm_nil (hK.out _ ?_)
 clear hK K
 refine held_call (i := 10) (fuel := 3) (by kernel_rfl) rfl (by rfl) (fun K hK => ?_)
 go_simp
 refine (stCap_any w4 h.at_).mono ?_
 rintro e w41 ⟨rfl, qq0⟩
 refine hK _ _ qq0 ?_
 clear hK K
 replace h := h.below qq0
 clear qq0
 refine held_call (i := 12) (fuel := 2) (by kernel_rfl) rfl (by rfl) (fun K hK => ?_)
 go_simp
 refine (refCap9_any G.gmay w41).mono ?_
 rintro e w5 ⟨rfl, qq0⟩
 refine hK _ _ qq0 ?_
 clear hK K
 replace h := h.below qq0
 clear qq0
 ·generalize hC : G.C = C at *
  refine held_reads (rs := [13, 14]) (fuel := 0) (by kernel_rfl) (fun c d v a w h => by cases d <;> exact h) (by kernel_rfl) (Since.refl _) (fun K hK => ?_)
  go_simp
  refine calm_do (.bool false) rfl (by rfl) (fun w' hw' => ?_) ?_
  ·go_simp
  go_simp
  refine calm_do (.bool false) rfl (by rfl) (fun w' hw' => ?_) ?_
  ·go_simp
  go_simp
  refine calm_nil (hK.out _ ?_)
  clear hK K
  refine wpAnyH_done (by kernel_rfl) ?_ _
  clear hC
  have hnw := refNew11_any L (by omega) w5
  obtain ⟨nb, hnb⟩ := Int.eq_ofNat_of_zero_le (show 0 ≤ G.b by have := G.ok.hb; omega)
  go_wp2_with fail
  refine hnw.mono ?_
  rintro e w6 ⟨hb, db, hnew, rfl, hm6, q6⟩
  unfold mapV
  have hM := mb_new (c1 := L) (c2 := L) h hm6 q6 hnew
  have q7 := btrans q6 (below_one w6 (.cells #[.slice (some ⟨hb, 0, none⟩) L L, .slice (some ⟨db, 0, none⟩) L L] 40))
  replace h := h.below q7
  clear hnw hm6 q6 q7 hnew
  obtain ⟨_, g0, g1, g2, g3, g4⟩ := hgb.below h.bel (Nat.le_refl _)
  obtain ⟨w8, hrun, vI, q8⟩ := makeBools11 nb (by omega) (w6.alloc (.cells #[.slice (some ⟨hb, 0, none⟩) L L, .slice (some ⟨db, 0, none⟩) L L] 40))
  have fI := h.free (Nat.le_refl _) vI.lt
  rw [← hnb] at hrun
  have HNB : Hid (G.b = (nb : Int)) := hnb
  have hnb12 : nb ≤ 12 := by omega
  have nI1 : w6.heap.size ≠ (w6.alloc (.cells #[.slice (some ⟨hb, 0, none⟩) L L, .slice (some ⟨db, 0, none⟩) L L] 40)).heap.size := by have := hM.fm.lt; omega
  have nI2 : hb ≠ (w6.alloc (.cells #[.slice (some ⟨hb, 0, none⟩) L L, .slice (some ⟨db, 0, none⟩) L L] 40)).heap.size := by have := hM.fh.lt; omega
  have nI3 : db ≠ (w6.alloc (.cells #[.slice (some ⟨hb, 0, none⟩) L L, .slice (some ⟨db, 0, none⟩) L L] 40)).heap.size := by have := hM.fd.lt; omega
  clear g1 g2 g3 g4 hnb
  go_wp2_with fail
  clear hrun g0
  replace h := h.below q8
  replace hM := hM.below q8
  clear q8
  have hsz6 : (w6.alloc (.cells #[.slice (some ⟨hb, 0, none⟩) L L, .slice (some ⟨db, 0, none⟩) L L] 40)).heap.size = w6.heap.size + 1 := by simp
  rw [hsz6] at vI fI nI1 nI2 nI3
  clear hsz6
  generalize w6.heap.size + 1 = ib at *
  generalize w6.heap.size = mb at *
  have hX : ∃ S0 : CS, LS w1 G B F bl S0 (fun _ => .no) (fun _ => none) 0 d s g st nu w8 ∧ S0.ah = 0 ∧ ∀ y, S0.wk y = false := ⟨_, h, rfl, fun _ => rfl⟩
  clear h
  obtain ⟨S0, h, hah, hwk⟩ := hX
  have HI0 : Hid (BadI w1 G B F bl S0 d s g st nu L mb hb db ib nb 0 w8) := ⟨fun _ => false, h, hM, vI, fI, fun y hy => by omega⟩
  clear h hM vI fI
  go_loopw [14] (fun i wr => ∃ k : Nat, k ≤ nb ∧ i = .int .i64 (k : Int) ∧ Hid (BadI w1 G B F bl S0 d s g st nu L mb hb db ib nb k wr)) (fun i _ => nb - (RowKit.intOf i).toNat)
  case atStart => exact ⟨0, by omega, rfl, HI0⟩
  case round =>
   clear HI0
   obtain ⟨k, hk, rfl, HI⟩ := hrel
   obtain ⟨ill, h, hM, vI, fI, hil⟩ := HI.out
   obtain ⟨_, g0, g1, g2, g3, g4⟩ := hgb.below h.bel (Nat.le_refl _)
   clear g1 g2 g3 g4 HI
   by_cases hlt : k < nb
   ·have hlt' : (k : Int) < G.b := by have := HNB.out; omega
    have hlt2 : (k : Int) < (nb : Int) := by omega
    have hbd := chipBad_any (k : Int) (i64_small (by omega)) wr h.at_.chip
    rw [h.up, Bool.true_and] at hbd
    go_wp2_with fail
    refine hbd.mono ?_
    rintro e w9 ⟨rfl, q9⟩
    replace h := h.below q9
    replace hM := hM.below q9
    replace vI := vI.below q9
    replace fI := fI.step (SDoes.of_below q9)
    have x0 := vI.at k hlt
    have y0 := vI.soft k
    have t : Turned (fun x => x = ib) w9 (w9.setCell ⟨ib, k, none⟩ (.bool (S0.bd k))) := (Turned.refl (fun x => x = ib) w9).setCell (p := ⟨ib, k, none⟩) (.inl rfl) _
    have HI2 : Hid (BadI w1 G B F bl S0 d s g st nu L mb hb db ib nb (k + 1) (w9.setCell ⟨ib, k, none⟩ (.bool (S0.bd k)))) := by
     refine ⟨fun i => if i = k then S0.bd k else ill i, h.aside t (fun x hx => by rw [hx]; exact fI), hM.turned t nI1 nI2 nI3, (vI.set k hlt _).eq (fun i _ => ?_), fI.turned t, fun y hy => ?_⟩
     ·by_cases e : i = k
      ·simp only [e, if_true]
      ·simp only [e, if_false]
     ·by_cases e : y = k
      ·simp only [e, if_true]
      ·simp only [e, if_false]; exact hil y (by omega)
    clear hbd h hM vI fI q9 t g0 hil
    go_wp2_with fail
    go_roundw
    case rel => exact ⟨k + 1, by omega, by go_num, HI2⟩
    case measure => simp [RowKit.intOf]; omega
   ·obtain rfl : nb = k := by omega
    have hge : ¬ (nb : Int) < G.b := by have := HNB.out; omega
    obtain ⟨wo, hwo⟩ : ∃ x, x = wr := ⟨_, rfl⟩
    subst hwo
    have hnb : G.b = (nb : Int) := HNB.out
    have HNB2 : Hid (G.b = (nb : Int)) := hnb
    have HIL : ∀ y : Nat, y < nb → S0.bd y = true ∨ S0.wk y = true → ill y = true := fun y hy hh => by
     rcases hh with e | e
     ·rw [hil y hy]; exact e
     ·rw [hwk] at e; cases e
    have HD0 : Hid (DoAt w1 G B L (100 + 0 * 4000) mb hb db ib nb s wo) := ⟨F, S0, fun _ => .no, fun _ => none, d, g, st, nu, ill, ⟨h.more (by omega) (by omega), hl, hM, vI, fI, hah, HIL, ⟨Ne.symm nI1, Ne.symm nI2, Ne.symm nI3⟩⟩⟩
    clear hnb h hM vI fI hil HIL
    obtain ⟨i0, hi0, hz0, hz1, hz2⟩ := info_parts Tryz.info5
    go_wp2_with fail
    clear g0 hge
    go_loopw [11, 15] (fun sv i wr => ∃ k s : Nat, k ≤ sl ∧ sv = .pointer (some ⟨s, 0, none⟩) ∧ i = .int .i64 (k : Int) ∧ Hid (DoAt w1 G B L (100 + k * 4000) mb hb db ib nb s wr)) (fun _ i _ => sl - (RowKit.intOf i).toNat)
    case atStart => exact ⟨0, s, by omega, rfl, rfl, HD0⟩
    case round =>
     clear HD0
     obtain ⟨k, s, hk, rfl, rfl, HD⟩ := hrel
     have QW : Hid (Below w1.heap.size w1 wr) := by
      obtain ⟨F, S, K, M, d, g, st, nu, ill, hD⟩ := HD.out
      exact hD.bel
     by_cases hlt : k < sl
     ·have hlt' : (k : Int) < (sl : Int) := by omega
      have hslm := hsc1.max
      unfold maxLen at hslm
      obtain ⟨cb, coff, rfl, hcb, hcc⟩ := hsc1.cells k hlt
      have hcc2 := hcc.same (QW.out.block cb hcb)
      have hok := hsc1.ok k hlt
      have hfw := HFEW.out.2 k hlt
      have h80 := HFEW.out.1
      clear hcc
      generalize ops k = o at *
      obtain ⟨kind, leb, block, n, keep, ra, rl, rc, rz⟩ := o
      obtain ⟨c0, c1, c2, c3, c4, c5⟩ := hcc2
      dsimp only at c0 c1 c2 c3 c4 c5 hfw
      obtain ⟨I1, I2, I3, I4, I5, hrow, hrb⟩ := hok
      dsimp only at I1 I2 I3 I4 I5 hrow hrb
      have hlm : rl ≤ maxLen := Nat.le_trans hrow.hcap hrow.hmax
      obtain ⟨F, S, K, M, d, g, st, nu, ill, hD⟩ := HD.out
      have q6 := below_one wr (.cells #[.int .i64 kind, .int .i64 leb, .int .i64 block, .int .i64 n, .int .i64 keep, .slice ra rl rc] 45)
      have hO : OB w1 F d s g wr.heap.size kind leb block n keep ra rl rc (wr.alloc (.cells #[.int .i64 kind, .int .i64 leb, .int .i64 block, .int .i64 n, .int .i64 keep, .slice ra rl rc] 45)) := ⟨vrow_op wr kind leb block n keep ra rl rc, hD.h.free (Nat.le_refl _) (vrow_op wr kind leb block n keep ra rl rc).lt⟩
      have nO1 : mb ≠ wr.heap.size := by have := hD.hm.fm.lt; omega
      have nO2 : hb ≠ wr.heap.size := by have := hD.hm.fh.lt; omega
      have nO3 : db ≠ wr.heap.size := by have := hD.hm.fd.lt; omega
      have nO4 : ib ≠ wr.heap.size := by have := hD.fi.lt; omega
      replace hD := hD.below q6
      clear q6 HD QW
      go_upto_region 19 with fail
      clear c0 c1 c2 c3 c4 c5
      generalize wr.alloc (.cells #[.int .i64 kind, .int .i64 leb, .int .i64 block, .int .i64 n, .int .i64 keep, .slice ra rl rc] 45) = w6 at *
      generalize wr.heap.size = ob at *
      go_cut [17] from 101 to 109 (fun iv wx => w6 = wx ∧ iv = .bool (inB0 leb (L : Int)))
      case first =>
       have o1 := hO.o1
       clear hO hD
       by_cases hA : 0 ≤ leb
       ·by_cases hA2 : leb < (L : Int)
        ·go_wp2_with fail
         go_meet
         exact ⟨rfl, by unfold inB0; simp [hA, hA2]⟩
        ·go_wp2_with fail
         go_meet
         exact ⟨rfl, by unfold inB0; simp [hA, hA2]⟩
       ·have hA3 : inB0 leb (L : Int) = false := by unfold inB0; exact decide_eq_false (by omega)
        go_wp2_with fail
        go_meet
        exact ⟨rfl, by rw [hA3]⟩
      case rest =>
       obtain ⟨rfl, rfl⟩ := hcut
       cases hin : inB0 leb (L : Int)
       ·have hout : leb < 0 ∨ (L : Int) ≤ leb := by have := inB0_no hin; omega
        clear hin
        have o0 := hO.o0
        go_upto_block 4 with fail
        clear o0
        go_cut [11] from 101 to 218 (fun sv wx => ∃ s2 : Nat, sv = .pointer (some ⟨s2, 0, none⟩) ∧ Hid (DoOp w1 G B L (100 + (k + 1) * 4000) mb hb db ib nb ob kind leb block n keep ra rl rc s2 wx))
        case first =>
         rcases (show kind = 0 ∨ kind = 1 ∨ kind = 3 ∨ kind = 4 ∨ kind = 5 ∨ (¬ kind = 0 ∧ ¬ kind = 1 ∧ ¬ kind = 3 ∧ ¬ kind = 4 ∧ ¬ kind = 5) by omega) with rfl | rfl | rfl | rfl | rfl | ⟨n0, n1, n3, n4, n5⟩
         ·as_aux_lemma =>
           have hown0 := World.ownsRow_lit (base := w6.heap.size) (e := 5) (size := 1) w6 #[] 0 (Nat.le_refl _) (Nat.zero_le _) rfl
           have hr0 := (hrow.below hD.bel (Nat.le_refl _)).below (below_one w6 (Obj.cells #[] 5)) (Nat.le_refl _)
           have y5 := (hO.below (below_one w6 (Obj.cells #[] 5))).o5
           go_wp2_with (at_builtin; refine wpList_append_row _ rfl _ _ 43 rfl w6.heap.size 5 i0 (.int .u8 0) 1 Tryz.underlying43 hi0 hz0 hz1 hz2 rfl _ 0 [] rfl hown0 .u8 ra rl rc rz rfl hr0 ?c1x ?c2x ?c3x ?_)
           all_goals try (first | omega | (unfold maxLen; omega) | exact hlm)
           intro v w7 hown1 hgrow1
           have q7 : Below w6.heap.size w6 w7 := (below_one w6 (Obj.cells #[] 5)).grown hgrow1 (by simp) (fun k hk => by simp [Value.ownBlock] at hk; omega)
           have hown1' : w7.ownsRow w6.heap.size 5 1 v rl (rz.map (Value.int .u8)) := by simpa using hown1
           have hlo := hown1'.lt
           obtain ⟨ao, co, rfl, ro⟩ := row_of_owns hown1'
           have hso : OffS F s g .u8 w7 ao rl co rz := hD.h.new ro (fun _ x hx => (hlo x.block (by rw [hx]; rfl)).1)
           replace hD := hD.below q7
           replace hO := hO.below q7
           clear hown0 hr0 y5 hown1 hown1' hgrow1 hlo ro q7
           have o1 := hO.o1
           have hcn := hD.change_no leb hout ao rl co
           go_wp2_with fail
           refine hcn.mono ?_
           rintro e w8 ⟨rfl, q8⟩
           replace hD := hD.below q8
           replace hO := hO.below q8
           clear hcn o1 q8 hso
           go_wp2_with fail
           refine held_begin (by kernel_rfl) ?_
           refine held_reads (rs := [0, 1, 2, 3, 4, 5, 6, 7, 8, 9]) (fuel := 0) (by kernel_rfl) (fun c d v a w h => by cases d <;> exact h) (by kernel_rfl) (Since.drew _) (fun K hK => ?_)
           refine calm_move _ rfl (by rfl) rfl ?_
           go_simp
           refine calm_do (.bool true) rfl (by rfl) (fun w' hw' => ?_) ?_
           ·go_simp
           go_simp
           refine calm_move _ rfl (by rfl) rfl ?_
           go_simp
           refine calm_skip rfl (by rfl) ?_
           go_simp
           refine calm_skip rfl (by rfl) ?_
           go_simp
           refine calm_skip rfl (by rfl) ?_
           go_simp
           refine calm_skip rfl (by rfl) ?_
           go_simp
           refine calm_skip rfl (by rfl) ?_
           go_simp
           refine calm_skip rfl (by rfl) ?_
           go_simp
           refine calm_do (.bool true) rfl (by rfl) (fun w' hw' => ?_) ?_
           ·go_simp
           go_simp
           refine calm_nil (hK.out _ ?_)
           clear hK K
           refine wpAnyH_done (by kernel_rfl) ?_ _
           replace hD := hD.below (Below.refl _ w8).drew
           replace hO := hO.below (Below.refl _ w8).drew
           have HR : Hid (DoOp w1 G B L (100 + (k + 1) * 4000) mb hb db ib nb ob 0 leb block n keep ra rl rc s w8.drew) := ⟨F, S, K, M, d, g, st, nu, ill, hD.more (by omega), hO⟩
           clear hD hO
           generalize w8.drew = w20 at *
           go_wp2_with fail
           go_meet
           exact ⟨s, rfl, HR⟩
         ·as_aux_lemma =>
           have hun := hD.unmap_no leb hout
           have o1 := hO.o1
           go_wp2_with fail
           refine hun.mono ?_
           rintro e w8 ⟨rfl, rfl⟩
           clear hun o1
           have HR : Hid (DoOp w1 G B L (100 + (k + 1) * 4000) mb hb db ib nb ob 1 leb block n keep ra rl rc s w6) := ⟨F, S, K, M, d, g, st, nu, ill, hD.more (by omega), hO⟩
           clear hD hO
           go_wp2_with fail
           go_meet
           exact ⟨s, rfl, HR⟩
         ·as_aux_lemma =>
           have hop := hD.open (by omega) (by omega)
           go_wp2_with fail
           refine hop.mono ?_
           rintro e w8 ⟨d2, s2, g2, st2, nu2, rfl, hD2, ⟨hd2, hs2, hg2⟩, t8⟩
           replace hO := (hO.other hd2 hs2 hg2).turned t8 hO.f.f
           clear hop hD t8 hd2 hs2 hg2
           have hD := hD2
           clear hD2
           have HR : Hid (DoOp w1 G B L (100 + (k + 1) * 4000) mb hb db ib nb ob 3 leb block n keep ra rl rc s2 w8) := ⟨F, _, K, M, d2, g2, st2, nu2, ill, hD.more (by omega), hO⟩
           clear hD hO
           go_wp2_with fail
           go_meet
           exact ⟨s2, rfl, HR⟩
         ·as_aux_lemma =>
           cases hbk : inB0 block G.b
           ·have hwk := hD.weak_no block I3 (by omega) hbk
            have o2 := hO.o2
            go_wp2_with fail
            refine hwk.mono ?_
            rintro e w8 ⟨⟨r, rfl⟩, F1, hD1, q8⟩
            replace hO := hO.step q8
            clear hwk hD o2 q8
            have hD := hD1
            clear hD1
            have o2 := hO.o2
            obtain ⟨_, g0, g1, g2, g3, g4⟩ := hgb.below hD.bel (Nat.le_refl _)
            have HR : Hid (DoOp w1 G B L (100 + (k + 1) * 4000) mb hb db ib nb ob 4 leb block n keep ra rl rc s w8) := ⟨F1, S, K, M, d, g, st, nu, ill, hD.more (by omega), hO⟩
            clear hD hO g1 g2 g3 g4
            by_cases hB0 : 0 ≤ block
            ·have hB1 : ¬ block < G.b := fun hh => inB0_no hbk ⟨hB0, hh⟩
             go_wp2_with fail
             go_meet
             exact ⟨s, rfl, HR⟩
            ·go_wp2_with fail
             go_meet
             exact ⟨s, rfl, HR⟩
           ·have hB0 := (inB0_yes hbk).1
            obtain ⟨y, rfl⟩ := Int.eq_ofNat_of_zero_le hB0
            have hB1 := (inB0_yes hbk).2
            have hy : y < nb := by have := HNB2.out; omega
            have hy2 : (y : Int) < (nb : Int) := by omega
            have hwk := hD.weak_yes HNB2.out y hy I3 (by omega)
            have o2 := hO.o2
            go_wp2_with fail
            refine hwk.mono ?_
            rintro e w8 ⟨⟨r, rfl⟩, F1, S1, ⟨e0, e1⟩, hD1, q8⟩
            have hO8 := hO.step q8
            have t : Turned (fun x => x = ib) w8 (w8.setCell ⟨ib, y, none⟩ (.bool true)) := (Turned.refl (fun x => x = ib) w8).setCell (p := ⟨ib, y, none⟩) (.inl rfl) _
            have hO9 := hO8.turned t (fun e => nO4 e.symm)
            have HR : Hid (DoOp w1 G B L (100 + (k + 1) * 4000) mb hb db ib nb ob 4 leb (y : Int) n keep ra rl rc s (w8.setCell ⟨ib, y, none⟩ (.bool true))) := ⟨F1, S1, K, M, d, g, st, nu, _, hD1.more (by omega), hO9⟩
            replace o2 := hO8.o2
            obtain ⟨_, g0, g1, g2, g3, g4⟩ := hgb.below ((hD.h.after q8).1) (Nat.le_refl _)
            clear hwk hD hO hO8 hO9 hD1 q8 t g1 g2 g3 g4 hbk
            go_wp2_with fail
            go_meet
            exact ⟨s, rfl, HR⟩
         ·as_aux_lemma =>
           go_wp2_with fail
           refine held_open11 (Turned (SetF F s g) w6) (by kernel_rfl) ?_
           refine held_reads (rs := [0, 1, 2, 3, 4, 5, 6, 7]) (fuel := 2) (by kernel_rfl) (fun c d v a w h => by cases d <;> exact h) (by kernel_rfl) ((Turned.refl _ _).drew) (fun K hK => ?_)
           refine calm_move _ rfl (by rfl) rfl ?_
           go_simp
           refine calm_do (.pointer (some ⟨ob, 2, none⟩)) rfl (by rfl) (fun w' hw' => ?_) ?_
           ·go_simp
           go_simp
           refine calm_do (.int .i64 block) rfl (by rfl) (fun w' hw' => ?_) ?_
           ·have cz := (hO.step (⟨hw', fun _ h => .inl h⟩ : SDoes F s g w6 F w')).o2
            go_simp
           go_simp
           refine calm_do (.pointer (some ⟨ob, 3, none⟩)) rfl (by rfl) (fun w' hw' => ?_) ?_
           ·go_simp
           go_simp
           refine calm_do (.int .i64 n) rfl (by rfl) (fun w' hw' => ?_) ?_
           ·have cz := (hO.step (⟨hw', fun _ h => .inl h⟩ : SDoes F s g w6 F w')).o3
            go_simp
           go_simp
           refine calm_do (.agg #[.int .i64 G.b, .int .i64 G.p, .int .i64 (G.s : Nat), .int .i64 (G.n : Nat), .int .i64 (G.f : Nat)]) rfl (by rfl) (fun w' hw' => ?_) ?_
           ·obtain ⟨_, c0, c1, c2, c3, c4⟩ := hgb.below (hD.h.after (⟨hw', fun _ h => .inl h⟩ : SDoes F s g w6 F w')).1 (Nat.le_refl _)
            go_simp
           go_simp
           refine calm_do (.pointer (some ⟨ob, 4, none⟩)) rfl (by rfl) (fun w' hw' => ?_) ?_
           ·go_simp
           go_simp
           refine calm_do (.int .i64 keep) rfl (by rfl) (fun w' hw' => ?_) ?_
           ·have cz := (hO.step (⟨hw', fun _ h => .inl h⟩ : SDoes F s g w6 F w')).o4
            go_simp
           go_simp
           refine calm_nil (hK.out _ ?_)
           clear hK K
           refine held_op11 (i := 8) (fuel := 1) (by kernel_rfl) rfl (by rfl) (fun K hK => ?_)
           go_simp
           refine (places11_any G keep I5 w6.drew).mono ?_
           rintro e w8 ⟨v, ps, hps, rfl, hown, qq0⟩
           have q8 : Since w6 w8 := Since.trans (Since.drew _) qq0
           have hlo := hown.lt
           obtain ⟨pa, pc, rfl, ro⟩ := row_of_owns hown
           refine hK _ _ (Turned.of_below _ q8) ?_
           clear hK K
           refine held_op11 (i := 9) (fuel := 0) (by kernel_rfl) rfl (by rfl) (fun K hK => ?_)
           go_simp
           refine ((hD.below q8).flip block n I3 I4 pa ps.length pc ps ro (fun _ x hx hf => by have h1 := (hlo x.block (by rw [hx]; rfl)).1; have h2 := hD.h.at_.chip.fresh _ hf; have h3 : w6.drew.heap.size = w6.heap.size := rfl; omega) hps (by omega)).mono ?_
           rintro e w9 ⟨⟨r, rfl⟩, F1, S1, hD1, q9⟩
           have q10 := (SDoes.of_below (F := F) (s := s) (g := g) q8).trans q9
           refine hK _ _ q10.tn ?_
           clear hK K
           replace hO := hO.step q10
           clear hD q9 q8 qq0 q10 hlo ro hown hps
           have hD := hD1
           clear hD1
           refine wpAnyH_done (by kernel_rfl) ?_ _
           have HR : Hid (DoOp w1 G B L (100 + (k + 1) * 4000) mb hb db ib nb ob 5 leb block n keep ra rl rc s w9) := ⟨F1, S1, K, M, d, g, st, nu, ill, hD.more (by omega), hO⟩
           clear hD hO
           go_wp2_with fail
           go_meet
           exact ⟨s, rfl, HR⟩
         ·as_aux_lemma =>
           have e0 : (kind == 0) = false := by simp [n0]
           have e1 : (kind == 1) = false := by simp [n1]
           have e3 : (kind == 3) = false := by simp [n3]
           have e4 : (kind == 4) = false := by simp [n4]
           have e5 : (kind == 5) = false := by simp [n5]
           have HR : Hid (DoOp w1 G B L (100 + (k + 1) * 4000) mb hb db ib nb ob kind leb block n keep ra rl rc s w6) := ⟨F, S, K, M, d, g, st, nu, ill, hD.more (by omega), hO⟩
           clear hD hO
           go_wp2_with fail
           go_meet
           exact ⟨s, rfl, HR⟩
        case rest =>
         clear hD hO
         obtain ⟨s2, rfl, HR⟩ := hcut
         have HD7 : Hid (DoAt w1 G B L (100 + (k + 1) * 4000) mb hb db ib nb s2 wc) := by
          obtain ⟨F2, S2, K2, M2, d2, g2, st2, nu2, ill2, hD2, hO2⟩ := HR.out
          exact ⟨F2, S2, K2, M2, d2, g2, st2, nu2, ill2, hD2⟩
         clear HR
         go_wp2_with fail
         go_roundw
         case rel => exact ⟨k + 1, s2, by omega, rfl, by go_num, HD7⟩
         case measure => simp [RowKit.intOf]; omega
       ·have hin2 := inB0_yes hin
        obtain ⟨j, rfl⟩ := Int.eq_ofNat_of_zero_le hin2.1
        have hj : j < L := by omega
        clear hin hin2
        have o0 := hO.o0
        go_upto_block 4 with fail
        clear o0
        go_cut [11] from 101 to 218 (fun sv wx => ∃ s2 : Nat, sv = .pointer (some ⟨s2, 0, none⟩) ∧ Hid (DoOp w1 G B L (100 + (k + 1) * 4000) mb hb db ib nb ob kind (j : Int) block n keep ra rl rc s2 wx))
        case first =>
         rcases (show kind = 0 ∨ kind = 1 ∨ kind = 3 ∨ kind = 4 ∨ kind = 5 ∨ (¬ kind = 0 ∧ ¬ kind = 1 ∧ ¬ kind = 3 ∧ ¬ kind = 4 ∧ ¬ kind = 5) by omega) with rfl | rfl | rfl | rfl | rfl | ⟨n0, n1, n3, n4, n5⟩
         ·as_aux_lemma =>
           have hown0 := World.ownsRow_lit (base := w6.heap.size) (e := 5) (size := 1) w6 #[] 0 (Nat.le_refl _) (Nat.zero_le _) rfl
           have hr0 := (hrow.below hD.bel (Nat.le_refl _)).below (below_one w6 (Obj.cells #[] 5)) (Nat.le_refl _)
           have y5 := (hO.below (below_one w6 (Obj.cells #[] 5))).o5
           go_wp2_with (at_builtin; refine wpList_append_row _ rfl _ _ 43 rfl w6.heap.size 5 i0 (.int .u8 0) 1 Tryz.underlying43 hi0 hz0 hz1 hz2 rfl _ 0 [] rfl hown0 .u8 ra rl rc rz rfl hr0 ?c1i ?c2i ?c3i ?_)
           all_goals try (first | omega | (unfold maxLen; omega) | exact hlm)
           intro v w7 hown1 hgrow1
           have q7 : Below w6.heap.size w6 w7 := (below_one w6 (Obj.cells #[] 5)).grown hgrow1 (by simp) (fun k hk => by simp [Value.ownBlock] at hk; omega)
           have hown1' : w7.ownsRow w6.heap.size 5 1 v rl (rz.map (Value.int .u8)) := by simpa using hown1
           have hlo := hown1'.lt
           obtain ⟨ao, co, rfl, ro⟩ := row_of_owns hown1'
           have hso : OffS F s g .u8 w7 ao rl co rz := hD.h.new ro (fun _ x hx => (hlo x.block (by rw [hx]; rfl)).1)
           replace hD := hD.below q7
           replace hO := hO.below q7
           clear hown0 hr0 y5 hown1 hown1' hgrow1 hlo ro q7
           have o1 := hO.o1
           by_cases hCap : (G.C : Int) < (rl : Int)
           ·have hcn := hD.change_long j hj ao rl co (by omega) hlm
            go_wp2_with fail
            refine hcn.mono ?_
            rintro e w8 ⟨rfl, q8⟩
            replace hD := hD.below q8
            replace hO := hO.below q8
            clear hcn o1 q8 hso
            go_wp2_with fail
            refine held_begin (by kernel_rfl) ?_
            refine held_reads (rs := [0, 1, 2, 3, 4, 5, 6]) (fuel := 3) (by kernel_rfl) (fun c d v a w h => by cases d <;> exact h) (by kernel_rfl) (Since.drew _) (fun K hK => ?_)
            refine calm_move _ rfl (by rfl) rfl ?_
            go_simp
            refine calm_do (.bool false) rfl (by rfl) (fun w' hw' => ?_) ?_
            ·go_simp
            go_simp
            refine calm_move _ rfl (by rfl) rfl ?_
            go_simp
            refine calm_do (.pointer (some ⟨ob, 5, none⟩)) rfl (by rfl) (fun w' hw' => ?_) ?_
            ·go_simp
            go_simp
            refine calm_do (.slice ra rl rc) rfl (by rfl) (fun w' hw' => ?_) ?_
            ·have cz := (hO.below hw').o5
             go_simp
            go_simp
            refine calm_do (.int .i64 (rl : Int)) rfl (by rfl) (fun w' hw' => ?_) ?_
            ·go_simp
            go_simp
            refine calm_move _ rfl (by rfl) rfl ?_
            go_simp
            refine calm_nil (hK.out _ ?_)
            clear hK K
            refine held_call (i := 7) (fuel := 2) (by kernel_rfl) rfl (by rfl) (fun K hK => ?_)
            go_simp
            refine (stCap_any w8.drew hD.h.at_.drew).mono ?_
            rintro e w9 ⟨rfl, qq0⟩
            have q9 : Since w8 w9 := Since.trans (Since.drew _) qq0
            refine hK _ _ q9 ?_
            clear hK K qq0
            replace hD := hD.below q9
            replace hO := hO.below q9
            refine held_reads (rs := [8, 9]) (fuel := 0) (by kernel_rfl) (fun c d v a w h => by cases d <;> exact h) (by kernel_rfl) (Since.refl _) (fun K hK => ?_)
            go_simp
            refine calm_do (.bool true) rfl (by rfl) (fun w' hw' => ?_) ?_
            ·go_simp
            go_simp
            refine calm_do (.bool true) rfl (by rfl) (fun w' hw' => ?_) ?_
            ·go_simp
            go_simp
            refine calm_nil (hK.out _ ?_)
            clear hK K
            refine wpAnyH_done (by kernel_rfl) ?_ _
            clear q9
            have HR : Hid (DoOp w1 G B L (100 + (k + 1) * 4000) mb hb db ib nb ob 0 (j : Int) block n keep ra rl rc s w9) := ⟨F, S, K, M, d, g, st, nu, ill, hD.more (by omega), hO⟩
            clear hD hO
            go_wp2_with fail
            go_meet
            exact ⟨s, rfl, HR⟩
           have hch := hD.change HNB2.out hnb12 (by omega) j hj rz ao rl co hso hrb (by omega)
           go_wp2_with fail
           refine hch.mono ?_
           rintro e w8 ⟨r, rfl, ⟨rfl, F1, S1, K1, st1, nu1, hD1, q8⟩ | ⟨rfl, F1, S1, K1, nu1, hD1, q8, hcnt⟩⟩
           ·have hsr := hso.step q8
            replace hO := hO.step q8
            clear hD hso hch o1 q8
            have hD := hD1
            clear hD1
            go_wp2_with fail
            refine held_begin (by kernel_rfl) ?_
            refine held_reads (rs := [0, 1, 2, 3, 4, 5, 6]) (fuel := 3) (by kernel_rfl) (fun c d v a w h => by cases d <;> exact h) (by kernel_rfl) (Since.drew _) (fun K hK => ?_)
            refine calm_move _ rfl (by rfl) rfl ?_
            go_simp
            refine calm_do (.bool false) rfl (by rfl) (fun w' hw' => ?_) ?_
            ·go_simp
            go_simp
            refine calm_move _ rfl (by rfl) rfl ?_
            go_simp
            refine calm_do (.pointer (some ⟨ob, 5, none⟩)) rfl (by rfl) (fun w' hw' => ?_) ?_
            ·go_simp
            go_simp
            refine calm_do (.slice ra rl rc) rfl (by rfl) (fun w' hw' => ?_) ?_
            ·have cz := (hO.below hw').o5
             go_simp
            go_simp
            refine calm_do (.int .i64 (rl : Int)) rfl (by rfl) (fun w' hw' => ?_) ?_
            ·go_simp
            go_simp
            refine calm_move _ rfl (by rfl) rfl ?_
            go_simp
            refine calm_nil (hK.out _ ?_)
            clear hK K
            refine held_call (i := 7) (fuel := 2) (by kernel_rfl) rfl (by rfl) (fun K hK => ?_)
            go_simp
            refine (stCap_any w8.drew hD.h.at_.drew).mono ?_
            rintro e w9 ⟨rfl, qq0⟩
            have q9 : Since w8 w9 := Since.trans (Since.drew _) qq0
            refine hK _ _ q9 ?_
            clear hK K qq0
            replace hD := hD.below q9
            replace hO := hO.below q9
            refine held_reads (rs := [8, 9]) (fuel := 0) (by kernel_rfl) (fun c d v a w h => by cases d <;> exact h) (by kernel_rfl) (Since.refl _) (fun K hK => ?_)
            go_simp
            refine calm_do (.bool false) rfl (by rfl) (fun w' hw' => ?_) ?_
            ·have hcq : rl ≤ G.C := by omega
             go_simp
            go_simp
            refine calm_do (.bool false) rfl (by rfl) (fun w' hw' => ?_) ?_
            ·go_simp
            go_simp
            refine calm_nil (hK.out _ ?_)
            clear hK K
            refine wpAnyH_done (by kernel_rfl) ?_ _
            replace hsr := hsr.step (SDoes.of_below q9)
            clear q9
            go_wp2_with fail
            refine held_begin (by kernel_rfl) ?_
            refine held_reads (rs := [0, 1, 2, 3, 4, 5, 6, 7, 8]) (fuel := 0) (by kernel_rfl) (fun c d v a w h => by cases d <;> exact h) (by kernel_rfl) (Since.drew _) (fun K hK => ?_)
            refine calm_move _ rfl (by rfl) rfl ?_
            go_simp
            refine calm_do (.bool false) rfl (by rfl) (fun w' hw' => ?_) ?_
            ·go_simp
            go_simp
            refine calm_move _ rfl (by rfl) rfl ?_
            go_simp
            refine calm_skip rfl (by rfl) ?_
            go_simp
            refine calm_skip rfl (by rfl) ?_
            go_simp
            refine calm_skip rfl (by rfl) ?_
            go_simp
            refine calm_skip rfl (by rfl) ?_
            go_simp
            refine calm_skip rfl (by rfl) ?_
            go_simp
            refine calm_do (.bool false) rfl (by rfl) (fun w' hw' => ?_) ?_
            ·go_simp
            go_simp
            refine calm_nil (hK.out _ ?_)
            clear hK K
            refine wpAnyH_done (by kernel_rfl) ?_ _
            replace hD := hD.below (Below.refl _ w9).drew
            replace hO := hO.below (Below.refl _ w9).drew
            replace hsr := hsr.step (SDoes.of_below (Below.refl _ w9).drew)
            generalize w9.drew = w10 at *
            have k1 := conv_row (P := Tryz.prog) Tryz.underlying43 Tryz.underlying5 Tryz.underlying9 hsr.row
            have k2 := conv_row (P := Tryz.prog) Tryz.underlying43 Tryz.underlying5 Tryz.underlying9 (hrow.below hD.bel (Nat.le_refl _))
            have o1 := hO.o1
            have o5 := hO.o5
            have n0 := hD.hm.b0
            have n1 := hD.hm.b1
            have hpt := refPut11_any hb db L L L M j hj rz w10 hD.hm.m
            unfold mapV at hpt
            go_wp2_with fail
            refine hpt.mono ?_
            rintro e w11 ⟨⟨r, rfl⟩, hm11, t11⟩
            replace hO := hO.turned t11 (by rintro (e | e); exact nO2 e.symm; exact nO3 e.symm)
            replace hD := hD.put hm11 t11
            clear hpt hm11 t11 k1 k2 o1 o5 n0 n1 hsr
            have HR : Hid (DoOp w1 G B L (100 + (k + 1) * 4000) mb hb db ib nb ob 0 (j : Int) block n keep ra rl rc s w11) := ⟨F1, S1, K1, _, d, g, st1, nu1, ill, hD.more (by omega), hO⟩
            clear hD hO
            go_wp2_with fail
            go_meet
            exact ⟨s, rfl, HR⟩
           ·replace hO := hO.step q8
            clear hD hso hch o1 q8
            have hD := hD1
            clear hD1
            go_wp2_with fail
            refine held_begin (by kernel_rfl) ?_
            refine held_reads (rs := [0, 1, 2, 3, 4, 5, 6]) (fuel := 3) (by kernel_rfl) (fun c d v a w h => by cases d <;> exact h) (by kernel_rfl) (Since.drew _) (fun K hK => ?_)
            refine calm_move _ rfl (by rfl) rfl ?_
            go_simp
            refine calm_do (.bool false) rfl (by rfl) (fun w' hw' => ?_) ?_
            ·go_simp
            go_simp
            refine calm_move _ rfl (by rfl) rfl ?_
            go_simp
            refine calm_do (.pointer (some ⟨ob, 5, none⟩)) rfl (by rfl) (fun w' hw' => ?_) ?_
            ·go_simp
            go_simp
            refine calm_do (.slice ra rl rc) rfl (by rfl) (fun w' hw' => ?_) ?_
            ·have cz := (hO.below hw').o5
             go_simp
            go_simp
            refine calm_do (.int .i64 (rl : Int)) rfl (by rfl) (fun w' hw' => ?_) ?_
            ·go_simp
            go_simp
            refine calm_move _ rfl (by rfl) rfl ?_
            go_simp
            refine calm_nil (hK.out _ ?_)
            clear hK K
            refine held_call (i := 7) (fuel := 2) (by kernel_rfl) rfl (by rfl) (fun K hK => ?_)
            go_simp
            refine (stCap_any w8.drew hD.h.at_.drew).mono ?_
            rintro e w9 ⟨rfl, qq0⟩
            have q9 : Since w8 w9 := Since.trans (Since.drew _) qq0
            refine hK _ _ q9 ?_
            clear hK K qq0
            replace hD := hD.below q9
            replace hO := hO.below q9
            refine held_reads (rs := [8, 9]) (fuel := 0) (by kernel_rfl) (fun c d v a w h => by cases d <;> exact h) (by kernel_rfl) (Since.refl _) (fun K hK => ?_)
            go_simp
            refine calm_do (.bool false) rfl (by rfl) (fun w' hw' => ?_) ?_
            ·have hcq : rl ≤ G.C := by omega
             go_simp
            go_simp
            refine calm_do (.bool false) rfl (by rfl) (fun w' hw' => ?_) ?_
            ·go_simp
            go_simp
            refine calm_nil (hK.out _ ?_)
            clear hK K
            refine wpAnyH_done (by kernel_rfl) ?_ _
            clear q9
            have hcI : ((cntB (fun i => !ill i) nb : Nat) : Int) ≤ ((cntB (fun i => (M i).isSome) L : Nat) : Int) := by omega
            clear hcnt
            go_wp2_with fail
            refine held_begin (by kernel_rfl) ?_
            refine held_reads (rs := [0, 1, 2, 3, 5]) (fuel := 4) (by kernel_rfl) (fun c d v a w h => by cases d <;> exact h) (by kernel_rfl) (Since.drew _) (fun K hK => ?_)
            refine calm_move _ rfl (by rfl) rfl ?_
            go_simp
            refine calm_do (.bool true) rfl (by rfl) (fun w' hw' => ?_) ?_
            ·go_simp
            go_simp
            refine calm_move _ rfl (by rfl) rfl ?_
            go_simp
            refine calm_move _ rfl (by rfl) rfl ?_
            go_simp
            refine calm_do (.agg #[.slice (some ⟨hb, 0, none⟩) L L, .slice (some ⟨db, 0, none⟩) L L]) rfl (by rfl) (fun w' hw' => ?_) ?_
            ·have n0 := (hD.hm.below hw').b0
             have n1 := (hD.hm.below hw').b1
             go_simp
            go_simp
            refine calm_nil (hK.out _ ?_)
            clear hK K
            refine held_call (i := 4) (fuel := 3) (by kernel_rfl) rfl (by rfl) (fun K hK => ?_)
            go_simp
            refine (healthy11_any ib nb nb ill (by omega) w9.drew (hD.vi.below (Below.refl _ w9).drew)).mono ?_
            rintro e w10 ⟨rfl, rfl⟩
            refine hK _ _ (Since.drew _) ?_
            clear hK K
            refine held_call (i := 6) (fuel := 2) (by kernel_rfl) rfl (by rfl) (fun K hK => ?_)
            go_simp
            have hcc := refCount11_any hb db L L L M (by omega) w9.drew (hD.hm.below (Below.refl _ w9).drew).m
            unfold mapV at hcc
            refine hcc.mono ?_
            rintro e w10 ⟨rfl, qq0⟩
            refine hK _ _ qq0 ?_
            clear hK K hcc
            replace hD := (hD.below (Below.refl _ w9).drew).below qq0
            replace hO := (hO.below (Below.refl _ w9).drew).below qq0
            clear qq0
            generalize ((cntB (fun i => !ill i) nb : Nat) : Int) = x1 at *
            generalize ((cntB (fun i => (M i).isSome) L : Nat) : Int) = x2 at *
            refine held_reads (rs := [7, 8]) (fuel := 0) (by kernel_rfl) (fun c d v a w h => by cases d <;> exact h) (by kernel_rfl) (Since.refl _) (fun K hK => ?_)
            go_simp
            refine calm_do (.bool true) rfl (by rfl) (fun w' hw' => ?_) ?_
            ·go_simp
            go_simp
            refine calm_do (.bool true) rfl (by rfl) (fun w' hw' => ?_) ?_
            ·go_simp
            go_simp
            refine calm_nil (hK.out _ ?_)
            clear hK K
            refine wpAnyH_done (by kernel_rfl) ?_ _
            have HR : Hid (DoOp w1 G B L (100 + (k + 1) * 4000) mb hb db ib nb ob 0 (j : Int) block n keep ra rl rc s w10) := ⟨F1, S1, K1, M, d, g, st, nu1, ill, hD.more (by omega), hO⟩
            clear hD hO
            go_wp2_with fail
            go_meet
            exact ⟨s, rfl, HR⟩
         ·as_aux_lemma =>
           have hun := hD.unmap (by omega) j hj
           have o1 := hO.o1
           go_wp2_with fail
           refine hun.mono ?_
           rintro e w8 ⟨rfl, F1, S1, K1, st1, nu1, hD1, q8⟩
           replace hO := hO.step q8
           clear hD hun o1 q8
           have hD := hD1
           clear hD1
           have o1 := hO.o1
           have n0 := hD.hm.b0
           have n1 := hD.hm.b1
           have hpt := refDrop11_any hb db L L L M j hj w8 hD.hm.m
           unfold mapV at hpt
           go_wp2_with fail
           refine hpt.mono ?_
           rintro e w11 ⟨⟨r, rfl⟩, hm11, t11⟩
           replace hO := hO.turned t11 (by rintro (e | e); exact nO2 e.symm; exact nO3 e.symm)
           replace hD := hD.put hm11 t11
           clear hpt hm11 t11 o1 n0 n1
           have HR : Hid (DoOp w1 G B L (100 + (k + 1) * 4000) mb hb db ib nb ob 1 (j : Int) block n keep ra rl rc s w11) := ⟨F1, S1, K1, _, d, g, st1, nu1, ill, hD.more (by omega), hO⟩
           clear hD hO
           go_wp2_with fail
           go_meet
           exact ⟨s, rfl, HR⟩
         ·as_aux_lemma =>
           have hop := hD.open (by omega) (by omega)
           go_wp2_with fail
           refine hop.mono ?_
           rintro e w8 ⟨d2, s2, g2, st2, nu2, rfl, hD2, ⟨hd2, hs2, hg2⟩, t8⟩
           replace hO := (hO.other hd2 hs2 hg2).turned t8 hO.f.f
           clear hop hD t8 hd2 hs2 hg2
           have hD := hD2
           clear hD2
           have HR : Hid (DoOp w1 G B L (100 + (k + 1) * 4000) mb hb db ib nb ob 3 (j : Int) block n keep ra rl rc s2 w8) := ⟨F, _, K, M, d2, g2, st2, nu2, ill, hD.more (by omega), hO⟩
           clear hD hO
           go_wp2_with fail
           go_meet
           exact ⟨s2, rfl, HR⟩
         ·as_aux_lemma =>
           cases hbk : inB0 block G.b
           ·have hwk := hD.weak_no block I3 (by omega) hbk
            have o2 := hO.o2
            go_wp2_with fail
            refine hwk.mono ?_
            rintro e w8 ⟨⟨r, rfl⟩, F1, hD1, q8⟩
            replace hO := hO.step q8
            clear hwk hD o2 q8
            have hD := hD1
            clear hD1
            have o2 := hO.o2
            obtain ⟨_, g0, g1, g2, g3, g4⟩ := hgb.below hD.bel (Nat.le_refl _)
            have HR : Hid (DoOp w1 G B L (100 + (k + 1) * 4000) mb hb db ib nb ob 4 (j : Int) block n keep ra rl rc s w8) := ⟨F1, S, K, M, d, g, st, nu, ill, hD.more (by omega), hO⟩
            clear hD hO g1 g2 g3 g4
            by_cases hB0 : 0 ≤ block
            ·have hB1 : ¬ block < G.b := fun hh => inB0_no hbk ⟨hB0, hh⟩
             go_wp2_with fail
             go_meet
             exact ⟨s, rfl, HR⟩
            ·go_wp2_with fail
             go_meet
             exact ⟨s, rfl, HR⟩
           ·have hB0 := (inB0_yes hbk).1
            obtain ⟨y, rfl⟩ := Int.eq_ofNat_of_zero_le hB0
            have hB1 := (inB0_yes hbk).2
            have hy : y < nb := by have := HNB2.out; omega
            have hy2 : (y : Int) < (nb : Int) := by omega
            have hwk := hD.weak_yes HNB2.out y hy I3 (by omega)
            have o2 := hO.o2
            go_wp2_with fail
            refine hwk.mono ?_
            rintro e w8 ⟨⟨r, rfl⟩, F1, S1, ⟨e0, e1⟩, hD1, q8⟩
            have hO8 := hO.step q8
            have t : Turned (fun x => x = ib) w8 (w8.setCell ⟨ib, y, none⟩ (.bool true)) := (Turned.refl (fun x => x = ib) w8).setCell (p := ⟨ib, y, none⟩) (.inl rfl) _
            have hO9 := hO8.turned t (fun e => nO4 e.symm)
            have HR : Hid (DoOp w1 G B L (100 + (k + 1) * 4000) mb hb db ib nb ob 4 (j : Int) (y : Int) n keep ra rl rc s (w8.setCell ⟨ib, y, none⟩ (.bool true))) := ⟨F1, S1, K, M, d, g, st, nu, _, hD1.more (by omega), hO9⟩
            replace o2 := hO8.o2
            obtain ⟨_, g0, g1, g2, g3, g4⟩ := hgb.below ((hD.h.after q8).1) (Nat.le_refl _)
            clear hwk hD hO hO8 hO9 hD1 q8 t g1 g2 g3 g4 hbk
            go_wp2_with fail
            go_meet
            exact ⟨s, rfl, HR⟩
         ·as_aux_lemma =>
           go_wp2_with fail
           refine held_open11 (Turned (SetF F s g) w6) (by kernel_rfl) ?_
           refine held_reads (rs := [0, 1, 2, 3, 4, 5, 6, 7]) (fuel := 2) (by kernel_rfl) (fun c d v a w h => by cases d <;> exact h) (by kernel_rfl) ((Turned.refl _ _).drew) (fun K hK => ?_)
           refine calm_move _ rfl (by rfl) rfl ?_
           go_simp
           refine calm_do (.pointer (some ⟨ob, 2, none⟩)) rfl (by rfl) (fun w' hw' => ?_) ?_
           ·go_simp
           go_simp
           refine calm_do (.int .i64 block) rfl (by rfl) (fun w' hw' => ?_) ?_
           ·have cz := (hO.step (⟨hw', fun _ h => .inl h⟩ : SDoes F s g w6 F w')).o2
            go_simp
           go_simp
           refine calm_do (.pointer (some ⟨ob, 3, none⟩)) rfl (by rfl) (fun w' hw' => ?_) ?_
           ·go_simp
           go_simp
           refine calm_do (.int .i64 n) rfl (by rfl) (fun w' hw' => ?_) ?_
           ·have cz := (hO.step (⟨hw', fun _ h => .inl h⟩ : SDoes F s g w6 F w')).o3
            go_simp
           go_simp
           refine calm_do (.agg #[.int .i64 G.b, .int .i64 G.p, .int .i64 (G.s : Nat), .int .i64 (G.n : Nat), .int .i64 (G.f : Nat)]) rfl (by rfl) (fun w' hw' => ?_) ?_
           ·obtain ⟨_, c0, c1, c2, c3, c4⟩ := hgb.below (hD.h.after (⟨hw', fun _ h => .inl h⟩ : SDoes F s g w6 F w')).1 (Nat.le_refl _)
            go_simp
           go_simp
           refine calm_do (.pointer (some ⟨ob, 4, none⟩)) rfl (by rfl) (fun w' hw' => ?_) ?_
           ·go_simp
           go_simp
           refine calm_do (.int .i64 keep) rfl (by rfl) (fun w' hw' => ?_) ?_
           ·have cz := (hO.step (⟨hw', fun _ h => .inl h⟩ : SDoes F s g w6 F w')).o4
            go_simp
           go_simp
           refine calm_nil (hK.out _ ?_)
           clear hK K
           refine held_op11 (i := 8) (fuel := 1) (by kernel_rfl) rfl (by rfl) (fun K hK => ?_)
           go_simp
           refine (places11_any G keep I5 w6.drew).mono ?_
           rintro e w8 ⟨v, ps, hps, rfl, hown, qq0⟩
           have q8 : Since w6 w8 := Since.trans (Since.drew _) qq0
           have hlo := hown.lt
           obtain ⟨pa, pc, rfl, ro⟩ := row_of_owns hown
           refine hK _ _ (Turned.of_below _ q8) ?_
           clear hK K
           refine held_op11 (i := 9) (fuel := 0) (by kernel_rfl) rfl (by rfl) (fun K hK => ?_)
           go_simp
           refine ((hD.below q8).flip block n I3 I4 pa ps.length pc ps ro (fun _ x hx hf => by have h1 := (hlo x.block (by rw [hx]; rfl)).1; have h2 := hD.h.at_.chip.fresh _ hf; have h3 : w6.drew.heap.size = w6.heap.size := rfl; omega) hps (by omega)).mono ?_
           rintro e w9 ⟨⟨r, rfl⟩, F1, S1, hD1, q9⟩
           have q10 := (SDoes.of_below (F := F) (s := s) (g := g) q8).trans q9
           refine hK _ _ q10.tn ?_
           clear hK K
           replace hO := hO.step q10
           clear hD q9 q8 qq0 q10 hlo ro hown hps
           have hD := hD1
           clear hD1
           refine wpAnyH_done (by kernel_rfl) ?_ _
           have HR : Hid (DoOp w1 G B L (100 + (k + 1) * 4000) mb hb db ib nb ob 5 (j : Int) block n keep ra rl rc s w9) := ⟨F1, S1, K, M, d, g, st, nu, ill, hD.more (by omega), hO⟩
           clear hD hO
           go_wp2_with fail
           go_meet
           exact ⟨s, rfl, HR⟩
         ·as_aux_lemma =>
           have e0 : (kind == 0) = false := by simp [n0]
           have e1 : (kind == 1) = false := by simp [n1]
           have e3 : (kind == 3) = false := by simp [n3]
           have e4 : (kind == 4) = false := by simp [n4]
           have e5 : (kind == 5) = false := by simp [n5]
           have HR : Hid (DoOp w1 G B L (100 + (k + 1) * 4000) mb hb db ib nb ob kind (j : Int) block n keep ra rl rc s w6) := ⟨F, S, K, M, d, g, st, nu, ill, hD.more (by omega), hO⟩
           clear hD hO
           go_wp2_with fail
           go_meet
           exact ⟨s, rfl, HR⟩
        case rest =>
         clear hD hO
         obtain ⟨s2, rfl, HR⟩ := hcut
         obtain ⟨F2, S2, K2, M2, d2, g2, st2, nu2, ill2, hD2, hO2⟩ := HR.out
         clear HR
         have o1 := hO2.o1
         have n0 := hD2.hm.b0
         have n1 := hD2.hm.b1
         have hrd := hD2.reads j hj
         go_wp2_with fail
         refine hrd.mono ?_
         rintro e w21 ⟨rfl, q21⟩
         have HD7 : Hid (DoAt w1 G B L (100 + (k + 1) * 4000) mb hb db ib nb s2 w21) := ⟨F2, S2, K2, M2, d2, g2, st2, nu2, ill2, hD2.below q21⟩
         clear hD2 hO2 hrd o1 n0 n1 q21
         go_wp2_with fail
         go_roundw
         case rel => exact ⟨k + 1, s2, by omega, rfl, by go_num, HD7⟩
         case measure => simp [RowKit.intOf]; omega
     ·obtain rfl : sl = k := by omega
      have hge : ¬ (sl : Int) < (sl : Int) := by omega
      have HQ : Hid (Below w.heap.size w wr) := btrans Q1.out QW.out
      obtain ⟨F, S, K, M, d, g, st, nu, ill, hD⟩ := HD.out
      have hop := hD.open (by omega) (by omega)
      clear QW HD
      go_wp2_with fail
      refine hop.mono ?_
      rintro e w8 ⟨d2, s2, g2, st2, nu2, rfl, hD2, _, t8⟩
      have QW : Hid (Below w.heap.size w w8) := btrans Q1.out hD2.bel
      have n0 := hD2.hm.b0
      have n1 := hD2.hm.b1
      have hal := hD2.all
      clear hop hD t8
      go_wp2_with fail
      refine hal.mono ?_
      rintro e w9 ⟨rfl, q9⟩
      have QX : Hid (Below w.heap.size w w9) := btrans QW.out q9
      clear hal hD2 n0 n1 q9
      go_wp2_with fail
      refine (awake11_any _).mono ?_
      rintro e w10 ⟨rfl, q10⟩
      go_wp2_with fail
      go_ret
      exact ⟨rfl, btrans QX.out q10⟩
end Go.Proofs.YtbafkakhhelcmaaGreat
