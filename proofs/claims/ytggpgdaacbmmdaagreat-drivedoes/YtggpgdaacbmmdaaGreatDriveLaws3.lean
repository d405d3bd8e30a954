/-
  Layer 8's law DriveDoes. (Written by tools/gen/drive_does.py.)
-/
import Derived.Test.YtggpgdaacbmmdaaGreatDriveStep
import Derived.Test.YtggpgdaacbmmdaaGreatDriveAwake
namespace Go.Proofs.YtggpgdaacbmmdaaGreat
open Go.RowKit Go.Maps
set_option linter.unusedVariables false
set_option maxRecDepth 8192

theorem ref7New_nil (G : Geo) (w : World) :
    Calls Tryz.prog 13 #[.agg #[.int .i64 G.b, .int .i64 G.p, .int .i64 G.s, .int .i64 G.n, .int .i64 G.f], .slice none 0 0] w fun e w' => ∃ R F, e = .returned (.tuple #[.pointer (some ⟨R.c, 0, none⟩), .bool true]) ∧ RefAt G R F (CS.fresh G.L [] 0) w' ∧ (∀ x, F x → w.heap.size ≤ x) ∧ Below w.heap.size w w' := by
  refine (ref7New_any G none 0 0 [] w (row_no _ _) (by omega)).mono ?_
  rintro e w' (⟨_, h⟩ | ⟨⟨x, hx, h⟩, _⟩)
  · exact h
  · cases hx
set_option maxHeartbeats 6400000 in
set_option maxRecDepth 100000 in
theorem walk_driveDoes (b p s n f : Int) (sa : Option Addr) (sl sc : Nat) (ops : Nat → DOp) (w : World) (hsc : DScriptAt w sa sl sc ops) :
    Calls Tryz.prog 3 #[.agg #[.int .i64 b, .int .i64 p, .int .i64 s, .int .i64 n, .int .i64 f], .slice sa sl sc] w fun e w' => e = .returned (.bool true) ∧ Below w.heap.size w w' := by
  cases hsm : small8 b p s n f
  · go_enter Tryz.func3, Tryz.ntmps3
    go_wp2_with fail
    refine (small8_any _ _ _ _ _ _).mono ?_
    rintro e w1 ⟨rfl, q1⟩
    rw [hsm]
    go_wp2_with fail
    go_ret
    exact ⟨rfl, btrans (below_one _ _) q1⟩
  obtain ⟨G, rfl, rfl, rfl, rfl, rfl, hb16, hp8, hR32⟩ := geo8_ex hsm
  have HSM : Hid (small8 G.b G.p G.s G.n G.f = true) := hsm
  clear hsm
  cases hfew : dfewB sl ops
  · go_enter Tryz.func3, Tryz.ntmps3
    go_wp2_with fail
    refine (small8_any _ _ _ _ _ _).mono ?_
    rintro e w1 ⟨rfl, q1⟩
    rw [HSM.out]
    go_wp2_with fail
    refine (dfew_any _ _ _ ops _ (hsc.below (btrans (below_one _ _) q1) (Nat.le_refl _))).mono ?_
    rw [hfew]
    rintro e w2 ⟨rfl, rfl⟩
    go_wp2_with fail
    go_ret
    exact ⟨rfl, btrans (below_one _ _) q1⟩
  have hfw : sl ≤ 150 ∧ ∀ i, i < sl → (ops i).rl ≤ 200 := by unfold dfewB at hfew; exact of_decide_eq_true hfew
  have hsl : sl ≤ 150 := hfw.1
  have HFW : Hid (∀ i, i < sl → (ops i).rl ≤ 200) := hfw.2
  clear hfw
  go_enter Tryz.func3, Tryz.ntmps3
  go_wp2_with fail
  have q0 := below_one w (.cells #[.int .i64 G.b, .int .i64 G.p, .int .i64 G.s, .int .i64 G.n, .int .i64 G.f] 23)
  have gb := gbox_new w 23 G.b G.p G.s G.n G.f
  have HQ0 : Hid (Below w.heap.size w (w.alloc (.cells #[.int .i64 G.b, .int .i64 G.p, .int .i64 G.s, .int .i64 G.n, .int .i64 G.f] 23))) := q0
  have hsc0 := hsc.below q0 (Nat.le_refl _)
  clear q0 hsc
  generalize hg0 : w.heap.size = g at gb ⊢
  have HG0 : Hid (w.heap.size = g) := hg0
  clear hg0
  generalize w.alloc (.cells #[.int .i64 G.b, .int .i64 G.p, .int .i64 G.s, .int .i64 G.n, .int .i64 G.f] 23) = W at *
  refine (small8_any _ _ _ _ _ _).mono ?_
  rintro e w1 ⟨rfl, q1⟩
  rw [HSM.out]
  go_wp2_with fail
  refine (dfew_any _ _ _ ops _ (hsc0.below q1 (Nat.le_refl _))).mono ?_
  rw [hfew]
  rintro e w2 ⟨rfl, rfl⟩
  obtain ⟨_, c0, c1, c2, c3, c4⟩ := gb.below q1 (Nat.le_refl _)
  go_wp2_with fail
  clear c0 c1 c2 c3 c4
  refine (chipNew_nil G _).mono ?_
  rintro e w3 ⟨c, rfl, hnew⟩
  obtain ⟨B, FC, rfl, h3⟩ := newChip_here q1 hnew
  clear q1 hnew
  go_wp2_with fail
  refine (drvNew_any B.c _).mono ?_
  rintro e w4 ⟨d, hd, rfl, db, q4⟩
  have h4 : DHere W G B FC 0 (CS.fresh G.L [] 0) d w4 := dhere_new h3 q4 db hd
  clear h3 q4 db hd
  obtain ⟨_, c0, c1, c2, c3, c4⟩ := gb.below h4.bel (Nat.le_refl _)
  go_wp2_with fail
  clear c0 c1 c2 c3 c4
  refine (ref7New_nil G _).mono ?_
  rintro e w5 ⟨R, FR, rfl, hR, hFR, q5⟩
  have h5 : DBoth W G B FC (4 * 0) R FR (CS.fresh G.L [] 0) (CS.fresh G.L [] 0) d w5 :=
    ⟨⟨h4.chip.below q5, hR, fun x hx hr => by have := h4.chip.fresh x hx; have := hFR x hr; omega, fun x hx => hx.elim (h4.here.low x) (fun hr => Nat.le_trans h4.bel.size (hFR x hr)), btrans h4.bel q5, inb_fresh (by simp) _ _⟩, h4.box.below q5 (Nat.le_refl _), fun hh => hh.elim h4.off (fun hr => by have := hFR d hr; have := h4.box.lt; omega)⟩
  have H0 : Hid (∃ FC FR S, DBoth W G B FC (4 * 0) R FR S S d w5) := ⟨_, _, _, h5⟩
  clear h4 hR hFR q5 h5
  go_wp2_with fail
  have hne := geoNe G.b G.p G.s G.n G.f
  go_loopw [11] (fun x11 wr => ∃ i : Nat, i ≤ sl ∧ x11 = .int .i64 (i : Int) ∧ Hid (∃ FC FR S, DBoth W G B FC (4 * i) R FR S S d wr)) (fun x11 _ => sl - (RowKit.intOf x11).toNat)
  case atStart => exact ⟨0, Nat.zero_le _, rfl, H0⟩
  case round =>
    clear H0
    obtain ⟨i, hi, rfl, HI⟩ := hrel
    obtain ⟨FC1, FR1, S1, h1⟩ := HI.out
    clear HI
    by_cases hlt : i < sl
    · have hlt' : (i : Int) < (sl : Int) := by omega
      obtain ⟨sb, so, rfl, hsb, hcs⟩ := hsc0.cells i hlt
      have hok := hsc0.ok i hlt
      have hrl := HFW.out i hlt
      generalize ops i = o at *
      have HCS : Hid (∀ w', Since W w' → DOpCells w' sb (so + i * 5) o) := fun w' hw' => hcs.same (hw'.block sb hsb)
      have HGB : Hid (∀ w', Since W w' → GBox w' g G.b G.p G.s G.n G.f) := fun w' hw' => gb.below hw' (Nat.le_refl _)
      clear hcs
      have hd := h1.below (Since.drew wr)
      clear h1
      go_wp2_with fail
      refine held_open (Since W) (by kernel_rfl) ?_
      refine held_reads (rs := [0, 1, 2, 3, 4, 5, 6]) (fuel := 16) (by kernel_rfl) (fun c d v a w h => by cases d <;> exact h) (by kernel_rfl) (hd.bel) (fun K hK => ?_)
      refine calm_move _ rfl (by rfl) rfl ?_
      go_simp
      refine calm_move _ rfl (by rfl) rfl ?_
      go_simp
      refine calm_move _ rfl (by rfl) rfl ?_
      go_simp
      refine calm_move _ rfl (by rfl) rfl ?_
      go_simp
      refine calm_move _ rfl (by rfl) rfl ?_
      go_simp
      refine calm_do (.pointer (some ⟨sb, so + i * 5, none⟩)) rfl (by rfl) (fun w' hw' => ?_) ?_
      · skip
        go_simp
      go_simp
      refine calm_do (.agg #[.int .i64 o.kind, .int .i64 o.block, .int .i64 o.page, .int .i64 o.n, .slice o.ra o.rl o.rc]) rfl (by rfl) (fun w' hw' => ?_) ?_
      · obtain ⟨s0, s1, s2, s3, s4⟩ := HCS.out w' hw'
        go_simp
      go_simp
      refine calm_nil (hK.out _ ?_)
      clear hK K
      refine held_op (i := 7) (fuel := 15) (by kernel_rfl) rfl (by rfl) (fun K hK => ?_)
      go_simp
      refine (step8_any hd o hok hrl (by omega)).mono ?_
      rintro e w6 ⟨rfl, FC6, FR6, S6, h6⟩
      have b6 : Since W w6 := h6.bel
      refine hK _ _ b6 ?_
      clear hK K hd
      refine held_reads (rs := [8, 9, 10, 12]) (fuel := 11) (by kernel_rfl) (fun c d v a w h => by cases d <;> exact h) (by kernel_rfl) (b6) (fun K hK => ?_)
      go_simp
      refine calm_do (.bool false) rfl (by rfl) (fun w' hw' => ?_) ?_
      · go_simp
      go_simp
      refine calm_move _ rfl (by rfl) rfl ?_
      go_simp
      refine calm_move _ rfl (by rfl) rfl ?_
      go_simp
      refine calm_move _ rfl (by rfl) rfl ?_
      go_simp
      refine calm_nil (hK.out _ ?_)
      clear hK K
      refine held_op (i := 11) (fuel := 10) (by kernel_rfl) rfl (by rfl) (fun K hK => ?_)
      go_simp
      refine (drvGood_any w6 h6.box h6.chip).mono ?_
      rintro e w7 ⟨v7, rfl, own7, q7⟩
      obtain ⟨a7, l7, rfl, r7⟩ := row_of_owns own7
      have h7 := h6.below q7
      have b7 : Since W w7 := h7.bel
      refine hK _ _ b7 ?_
      clear hK K h6 own7 q7 b6
      refine held_op (i := 13) (fuel := 9) (by kernel_rfl) rfl (by rfl) (fun K hK => ?_)
      go_simp
      refine (ref8Good_any w7 h7.ref).mono ?_
      rintro e w8 ⟨v8, rfl, own8, q8⟩
      obtain ⟨a8, l8, rfl, r8⟩ := row_of_owns own8
      have h8 := h7.below q8
      replace r7 := r7.below q8 (Nat.le_refl _)
      have b8 : Since W w8 := h8.bel
      refine hK _ _ b8 ?_
      clear hK K h7 own8 q8 b7
      refine held_op (i := 14) (fuel := 8) (by kernel_rfl) rfl (by rfl) (fun K hK => ?_)
      go_simp
      refine (ints_any _ _ _ _ _ _ (S6.goodTo G.b.toNat) (S6.goodTo G.b.toNat) w8 r7 r8).mono ?_
      rintro e w9 ⟨rfl, q9⟩
      rw [decide_eq_true rfl]
      have h9 := h8.below q9
      have b9 : Since W w9 := h9.bel
      refine hK _ _ b9 ?_
      clear hK K h8 r7 r8 q9 b8
      refine held_reads (rs := [15, 16, 17, 18, 20]) (fuel := 3) (by kernel_rfl) (fun c d v a w h => by cases d <;> exact h) (by kernel_rfl) (b9) (fun K hK => ?_)
      go_simp
      refine calm_do (.bool false) rfl (by rfl) (fun w' hw' => ?_) ?_
      · go_simp
      go_simp
      refine calm_do (.bool false) rfl (by rfl) (fun w' hw' => ?_) ?_
      · go_simp
      go_simp
      refine calm_move _ rfl (by rfl) rfl ?_
      go_simp
      refine calm_move _ rfl (by rfl) rfl ?_
      go_simp
      refine calm_do (.agg #[.int .i64 G.b, .int .i64 G.p, .int .i64 G.s, .int .i64 G.n, .int .i64 G.f]) rfl (by rfl) (fun w' hw' => ?_) ?_
      · obtain ⟨_, c0, c1, c2, c3, c4⟩ := HGB.out w' hw'
        go_simp
      go_simp
      refine calm_nil (hK.out _ ?_)
      clear hK K
      refine held_op (i := 19) (fuel := 2) (by kernel_rfl) rfl (by rfl) (fun K hK => ?_)
      go_simp
      refine (drvGeometry_any w9 h9.box h9.chip.cell h9.chip.lt).mono ?_
      rintro e w10 ⟨rfl, q10⟩
      have h10 := h9.below q10
      have HR : Hid (∃ FC FR S, DBoth W G B FC (4 * (i + 1)) R FR S S d w10) := ⟨_, _, _, h10⟩
      have b10 : Since W w10 := h10.bel
      refine hK _ _ b10 ?_
      clear hK K h9 h10 q10 b9
      refine held_reads (rs := [21, 22]) (fuel := 0) (by kernel_rfl) (fun c d v a w h => by cases d <;> exact h) (by kernel_rfl) (b10) (fun K hK => ?_)
      go_simp
      refine calm_do (.bool false) rfl (by rfl) (fun w' hw' => ?_) ?_
      · have hnn := hne
        go_simp
      go_simp
      refine calm_do (.bool false) rfl (by rfl) (fun w' hw' => ?_) ?_
      · go_simp
      go_simp
      refine calm_nil (hK.out _ ?_)
      clear hK K
      refine wpAnyH_done (by kernel_rfl) ?_ _
      go_wp2_with fail
      go_roundw
      case rel => exact ⟨i + 1, by omega, by go_num, HR⟩
      case measure => simp [RowKit.intOf]; omega
    · have hge : ¬ (i : Int) < (sl : Int) := by omega
      have hb1 := h1.bel
      clear h1
      go_wp2_with fail
      refine (awake8_any _).mono ?_
      rintro e w9 ⟨rfl, q9⟩
      go_wp2_with fail
      go_ret
      exact ⟨rfl, btrans HQ0.out (btrans hb1 q9)⟩
end Go.Proofs.YtggpgdaacbmmdaaGreat
