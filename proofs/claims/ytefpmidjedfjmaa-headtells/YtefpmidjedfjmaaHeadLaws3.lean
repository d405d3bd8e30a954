/-
  Layer 9's laws: the walks of HeadTells, HeadBack. (Written by tools/gen/head_laws3.py.)
-/
import Derived.Test.YtefpmidjedfjmaaHeadLaws2
namespace Go.Proofs.Ytefpmidjedfjmaa
open Go.RowKit
set_option linter.unusedVariables false
set_option maxRecDepth 8192

theorem hbox_three (w : World) (o o2 : Obj) (T : TypeId) (a b c : Int) : HBox (((w.alloc o).alloc o2).alloc (.cells #[.int .i64 a, .int .i64 b, .int .i64 c] T)) (w.heap.size + 2) a b c := by
  have h := hbox_two (w.alloc o) o2 T a b c
  have e : (w.alloc o).heap.size = w.heap.size + 1 := by simp
  rw [e] at h
  exact h
set_option maxHeartbeats 12800000 in
set_option maxRecDepth 100000 in
theorem walk_headTells (b p s n f X x y z : Int) (w : World) : Calls Try.prog 3 #[.agg #[.int .i64 b, .int .i64 p, .int .i64 s, .int .i64 n, .int .i64 f], .int .i64 X, .agg #[.int .i64 x, .int .i64 y, .int .i64 z]] w fun e w' => e = .returned (.bool true) ∧ Below w.heap.size w w' := by
  cases hm : mayG b p s n f
  · go_enter Try.func3, Try.ntmps3
    go_wp2_with fail
    have gb := gbox_ahead w 23 b p s n f (.cells #[.int .i64 x, .int .i64 y, .int .i64 z] 25)
    have hx := hbox_two w (.cells #[.int .i64 b, .int .i64 p, .int .i64 s, .int .i64 n, .int .i64 f] 23) 25 x y z
    have q1 := below_two w (.cells #[.int .i64 b, .int .i64 p, .int .i64 s, .int .i64 n, .int .i64 f] 23) (.cells #[.int .i64 x, .int .i64 y, .int .i64 z] 25)
    generalize (w.alloc (.cells #[.int .i64 b, .int .i64 p, .int .i64 s, .int .i64 n, .int .i64 f] 23)).alloc (.cells #[.int .i64 x, .int .i64 y, .int .i64 z] 25) = w0 at *
    generalize hgg : w.heap.size = g at gb hx
    refine (hCap_no b p s n f _ hm).mono ?_
    rintro e w1 ⟨rfl, qq⟩
    replace gb := gb.below qq (Nat.le_refl _)
    replace hx := hx.below qq (Nat.le_refl _)
    replace q1 := btrans q1 qq
    clear qq
    have gb_ := gb
    obtain ⟨_, c0, c1, c2, c3, c4⟩ := gb_
    have hx_ := hx
    obtain ⟨_, hxd0, hxd1, hxd2⟩ := hx_
    go_wp2_with fail
    clear c0 c1 c2 c3 c4
    clear hxd0 hxd1 hxd2
    refine (hPages_geo b p s n f X _ hm).mono ?_
    rintro e w2 ⟨rfl, qq⟩
    replace gb := gb.below qq (Nat.le_refl _)
    replace hx := hx.below qq (Nat.le_refl _)
    replace q1 := btrans q1 qq
    clear qq
    have gb_ := gb
    obtain ⟨_, c0, c1, c2, c3, c4⟩ := gb_
    have hx_ := hx
    obtain ⟨_, hxd0, hxd1, hxd2⟩ := hx_
    go_wp2_with fail
    clear c0 c1 c2 c3 c4
    clear hxd0 hxd1 hxd2
    refine (hBytes_geo b p s n f x y z _ hm).mono ?_
    rintro e w3 ⟨rfl, qq⟩
    replace gb := gb.below qq (Nat.le_refl _)
    replace hx := hx.below qq (Nat.le_refl _)
    replace q1 := btrans q1 qq
    clear qq
    have gb_ := gb
    obtain ⟨_, c0, c1, c2, c3, c4⟩ := gb_
    have hx_ := hx
    obtain ⟨_, hxd0, hxd1, hxd2⟩ := hx_
    go_wp2_with fail
    clear c0 c1 c2 c3 c4
    clear hxd0 hxd1 hxd2
    refine (refMay_any b p s n f _).mono ?_
    rintro e w4 ⟨rfl, qq⟩
    replace gb := gb.below qq (Nat.le_refl _)
    replace hx := hx.below qq (Nat.le_refl _)
    replace q1 := btrans q1 qq
    clear qq
    rw [hm]
    have gb_ := gb
    obtain ⟨_, c0, c1, c2, c3, c4⟩ := gb_
    have hx_ := hx
    obtain ⟨_, hxd0, hxd1, hxd2⟩ := hx_
    go_wp2_with fail
    clear c0 c1 c2 c3 c4
    clear hxd0 hxd1 hxd2
    refine (awake9_any _).mono ?_
    rintro e w5 ⟨rfl, qq⟩
    replace gb := gb.below qq (Nat.le_refl _)
    replace hx := hx.below qq (Nat.le_refl _)
    replace q1 := btrans q1 qq
    clear qq
    have gb_ := gb
    obtain ⟨_, c0, c1, c2, c3, c4⟩ := gb_
    have hx_ := hx
    obtain ⟨_, hxd0, hxd1, hxd2⟩ := hx_
    go_wp2_with fail
    go_ret
    exact ⟨rfl, q1⟩
  obtain ⟨s, n, R, C, rfl, rfl, G⟩ := gmay_of hm
  have hmy := refMay9_any G x y z
  have hcp := refCap9_any G
  have hC := G.hC1
  have hR := G.hR1
  cases hX : withB X 0 (C : Int)
  · have hXn := withB_no hX
    by_cases hX0 : X < 0
    · cases hh : mayH C x y z
      · go_enter Try.func3, Try.ntmps3
        go_wp2_with fail
        have gb := gbox_ahead w 23 b p s n f (.cells #[.int .i64 x, .int .i64 y, .int .i64 z] 25)
        have hx := hbox_two w (.cells #[.int .i64 b, .int .i64 p, .int .i64 s, .int .i64 n, .int .i64 f] 23) 25 x y z
        have q1 := below_two w (.cells #[.int .i64 b, .int .i64 p, .int .i64 s, .int .i64 n, .int .i64 f] 23) (.cells #[.int .i64 x, .int .i64 y, .int .i64 z] 25)
        generalize (w.alloc (.cells #[.int .i64 b, .int .i64 p, .int .i64 s, .int .i64 n, .int .i64 f] 23)).alloc (.cells #[.int .i64 x, .int .i64 y, .int .i64 z] 25) = w0 at *
        generalize hgg : w.heap.size = g at gb hx
        refine (hCap_yes G _).mono ?_
        rintro e w1 ⟨rfl, qq⟩
        replace gb := gb.below qq (Nat.le_refl _)
        replace hx := hx.below qq (Nat.le_refl _)
        replace q1 := btrans q1 qq
        clear qq
        have gb_ := gb
        obtain ⟨_, c0, c1, c2, c3, c4⟩ := gb_
        have hx_ := hx
        obtain ⟨_, hxd0, hxd1, hxd2⟩ := hx_
        go_wp2_with fail
        clear c0 c1 c2 c3 c4
        clear hxd0 hxd1 hxd2
        refine (hPages_no G X _ hX).mono ?_
        rintro e w2 ⟨rfl, qq⟩
        replace gb := gb.below qq (Nat.le_refl _)
        replace hx := hx.below qq (Nat.le_refl _)
        replace q1 := btrans q1 qq
        clear qq
        have gb_ := gb
        obtain ⟨_, c0, c1, c2, c3, c4⟩ := gb_
        have hx_ := hx
        obtain ⟨_, hxd0, hxd1, hxd2⟩ := hx_
        go_wp2_with fail
        clear c0 c1 c2 c3 c4
        clear hxd0 hxd1 hxd2
        refine (hBytes_no G x y z _ hh).mono ?_
        rintro e w3 ⟨rfl, qq⟩
        replace gb := gb.below qq (Nat.le_refl _)
        replace hx := hx.below qq (Nat.le_refl _)
        replace q1 := btrans q1 qq
        clear qq
        have gb_ := gb
        obtain ⟨_, c0, c1, c2, c3, c4⟩ := gb_
        have hx_ := hx
        obtain ⟨_, hxd0, hxd1, hxd2⟩ := hx_
        go_wp2_with fail
        clear c0 c1 c2 c3 c4
        clear hxd0 hxd1 hxd2
        refine (refMay_any b p s n f _).mono ?_
        rintro e w4 ⟨rfl, qq⟩
        replace gb := gb.below qq (Nat.le_refl _)
        replace hx := hx.below qq (Nat.le_refl _)
        replace q1 := btrans q1 qq
        clear qq
        rw [hm]
        have gb_ := gb
        obtain ⟨_, c0, c1, c2, c3, c4⟩ := gb_
        have hx_ := hx
        obtain ⟨_, hxd0, hxd1, hxd2⟩ := hx_
        go_wp2_with fail
        clear c0 c1 c2 c3 c4
        clear hxd0 hxd1 hxd2
        refine (hcp _).mono ?_
        rintro e w5 ⟨rfl, qq⟩
        replace gb := gb.below qq (Nat.le_refl _)
        replace hx := hx.below qq (Nat.le_refl _)
        replace q1 := btrans q1 qq
        clear qq
        have gb_ := gb
        obtain ⟨_, c0, c1, c2, c3, c4⟩ := gb_
        have hx_ := hx
        obtain ⟨_, hxd0, hxd1, hxd2⟩ := hx_
        go_wp2_with fail
        clear c0 c1 c2 c3 c4
        clear hxd0 hxd1 hxd2
        refine (hmy _).mono ?_
        rintro e w6 ⟨rfl, qq⟩
        replace gb := gb.below qq (Nat.le_refl _)
        replace hx := hx.below qq (Nat.le_refl _)
        replace q1 := btrans q1 qq
        clear qq
        rw [hh]
        have gb_ := gb
        obtain ⟨_, c0, c1, c2, c3, c4⟩ := gb_
        have hx_ := hx
        obtain ⟨_, hxd0, hxd1, hxd2⟩ := hx_
        go_wp2_with fail
        clear c0 c1 c2 c3 c4
        clear hxd0 hxd1 hxd2
        refine (awake9_any _).mono ?_
        rintro e w7 ⟨rfl, qq⟩
        replace gb := gb.below qq (Nat.le_refl _)
        replace hx := hx.below qq (Nat.le_refl _)
        replace q1 := btrans q1 qq
        clear qq
        have gb_ := gb
        obtain ⟨_, c0, c1, c2, c3, c4⟩ := gb_
        have hx_ := hx
        obtain ⟨_, hxd0, hxd1, hxd2⟩ := hx_
        go_wp2_with fail
        go_ret
        exact ⟨rfl, q1⟩
      · go_enter Try.func3, Try.ntmps3
        go_wp2_with fail
        have gb := gbox_ahead w 23 b p s n f (.cells #[.int .i64 x, .int .i64 y, .int .i64 z] 25)
        have hx := hbox_two w (.cells #[.int .i64 b, .int .i64 p, .int .i64 s, .int .i64 n, .int .i64 f] 23) 25 x y z
        have q1 := below_two w (.cells #[.int .i64 b, .int .i64 p, .int .i64 s, .int .i64 n, .int .i64 f] 23) (.cells #[.int .i64 x, .int .i64 y, .int .i64 z] 25)
        generalize (w.alloc (.cells #[.int .i64 b, .int .i64 p, .int .i64 s, .int .i64 n, .int .i64 f] 23)).alloc (.cells #[.int .i64 x, .int .i64 y, .int .i64 z] 25) = w0 at *
        generalize hgg : w.heap.size = g at gb hx
        refine (hCap_yes G _).mono ?_
        rintro e w1 ⟨rfl, qq⟩
        replace gb := gb.below qq (Nat.le_refl _)
        replace hx := hx.below qq (Nat.le_refl _)
        replace q1 := btrans q1 qq
        clear qq
        have gb_ := gb
        obtain ⟨_, c0, c1, c2, c3, c4⟩ := gb_
        have hx_ := hx
        obtain ⟨_, hxd0, hxd1, hxd2⟩ := hx_
        go_wp2_with fail
        clear c0 c1 c2 c3 c4
        clear hxd0 hxd1 hxd2
        refine (hPages_no G X _ hX).mono ?_
        rintro e w2 ⟨rfl, qq⟩
        replace gb := gb.below qq (Nat.le_refl _)
        replace hx := hx.below qq (Nat.le_refl _)
        replace q1 := btrans q1 qq
        clear qq
        have gb_ := gb
        obtain ⟨_, c0, c1, c2, c3, c4⟩ := gb_
        have hx_ := hx
        obtain ⟨_, hxd0, hxd1, hxd2⟩ := hx_
        go_wp2_with fail
        clear c0 c1 c2 c3 c4
        clear hxd0 hxd1 hxd2
        refine (hBytes_yes G x y z _ hh).mono ?_
        rintro e w3 ⟨g3, _, rfl, own, qq⟩
        obtain ⟨a3, c3, he, r8⟩ := row_of_owns own
        cases he
        clear own
        replace gb := gb.below qq (Nat.le_refl _)
        replace hx := hx.below qq (Nat.le_refl _)
        replace q1 := btrans q1 qq
        clear qq
        have gb_ := gb
        obtain ⟨_, c0, c1, c2, c3, c4⟩ := gb_
        have hx_ := hx
        obtain ⟨_, hxd0, hxd1, hxd2⟩ := hx_
        go_wp2_with fail
        clear c0 c1 c2 c3 c4
        clear hxd0 hxd1 hxd2
        refine (refMay_any b p s n f _).mono ?_
        rintro e w4 ⟨rfl, qq⟩
        replace gb := gb.below qq (Nat.le_refl _)
        replace hx := hx.below qq (Nat.le_refl _)
        replace r8 := r8.below qq (Nat.le_refl _)
        replace q1 := btrans q1 qq
        clear qq
        rw [hm]
        have gb_ := gb
        obtain ⟨_, c0, c1, c2, c3, c4⟩ := gb_
        have hx_ := hx
        obtain ⟨_, hxd0, hxd1, hxd2⟩ := hx_
        go_wp2_with fail
        clear c0 c1 c2 c3 c4
        clear hxd0 hxd1 hxd2
        refine (hcp _).mono ?_
        rintro e w5 ⟨rfl, qq⟩
        replace gb := gb.below qq (Nat.le_refl _)
        replace hx := hx.below qq (Nat.le_refl _)
        replace r8 := r8.below qq (Nat.le_refl _)
        replace q1 := btrans q1 qq
        clear qq
        have gb_ := gb
        obtain ⟨_, c0, c1, c2, c3, c4⟩ := gb_
        have hx_ := hx
        obtain ⟨_, hxd0, hxd1, hxd2⟩ := hx_
        go_wp2_with fail
        clear c0 c1 c2 c3 c4
        clear hxd0 hxd1 hxd2
        refine (hmy _).mono ?_
        rintro e w6 ⟨rfl, qq⟩
        replace gb := gb.below qq (Nat.le_refl _)
        replace hx := hx.below qq (Nat.le_refl _)
        replace r8 := r8.below qq (Nat.le_refl _)
        replace q1 := btrans q1 qq
        clear qq
        rw [hh]
        have gb_ := gb
        obtain ⟨_, c0, c1, c2, c3, c4⟩ := gb_
        have hx_ := hx
        obtain ⟨_, hxd0, hxd1, hxd2⟩ := hx_
        go_upto_region 15 with fail
        clear c0 c1 c2 c3 c4
        clear hxd0 hxd1 hxd2
        refine held_begin (by kernel_rfl) ?_
        refine held_call (i := 0) (fuel := 14) (by kernel_rfl) rfl (by rfl) (fun K hK => ?_)
        go_simp
        have qd := Since.drew w6
        replace gb := gb.below qd (Nat.le_refl _)
        replace hx := hx.below qd (Nat.le_refl _)
        replace r8 := r8.below qd (Nat.le_refl _)
        replace q1 := btrans q1 qd
        clear qd
        refine (awake9_any _).mono ?_
        rintro e w7 ⟨rfl, qq0⟩
        refine hK _ _ (Since.trans (Since.drew _) qq0) ?_
        have qq : Since _ _ := qq0
        clear hK K qq0
        replace gb := gb.below qq (Nat.le_refl _)
        replace hx := hx.below qq (Nat.le_refl _)
        replace r8 := r8.below qq (Nat.le_refl _)
        replace q1 := btrans q1 qq
        clear qq
        refine held_reads (rs := [1, 2, 3, 4, 5, 6, 7, 8, 9]) (fuel := 5) (by kernel_rfl) (fun c d v a w h => by cases d <;> exact h) (by kernel_rfl) (Since.refl _) (fun K hK => ?_)
        go_simp
        refine calm_move _ rfl (by rfl) rfl ?_
        go_simp
        refine calm_move _ rfl (by rfl) rfl ?_
        go_simp
        refine calm_do (.bool true) rfl (by rfl) (fun w' hw' => ?_) ?_
        · go_simp
        go_simp
        refine calm_do (.bool true) rfl (by rfl) (fun w' hw' => ?_) ?_
        · go_simp
        go_simp
        refine calm_move _ rfl (by rfl) rfl ?_
        go_simp
        refine calm_move _ rfl (by rfl) rfl ?_
        go_simp
        refine calm_do (.string (strOfNums (pageOf R x y z))) rfl (by rfl) (fun w' hw' => ?_) ?_
        · have hcc := conv_row Try.underlying30 Try.underlying5 Try.underlying9 (r8.below hw' (Nat.le_refl _))
          go_simp
        go_simp
        refine calm_do (.agg #[.int .i64 b, .int .i64 p, .int .i64 s, .int .i64 n, .int .i64 f]) rfl (by rfl) (fun w' hw' => ?_) ?_
        · have gb' := gb.below hw' (Nat.le_refl _)
          obtain ⟨_, c0, c1, c2, c3, c4⟩ := gb'
          go_simp
        go_simp
        refine calm_do (.agg #[.int .i64 x, .int .i64 y, .int .i64 z]) rfl (by rfl) (fun w' hw' => ?_) ?_
        · have hx' := hx.below hw' (Nat.le_refl _)
          obtain ⟨_, d0, d1, d2⟩ := hx'
          go_simp
        go_simp
        refine calm_nil (hK.out _ ?_)
        clear hK K
        refine held_call (i := 10) (fuel := 4) (by kernel_rfl) rfl (by rfl) (fun K hK => ?_)
        go_simp
        refine (refBytes9_any G x y z _ hh).mono ?_
        rintro e w8 ⟨v, rfl, own, qq0⟩
        refine hK _ _ (Since.trans (Since.refl _) qq0) ?_
        have qq : Since _ _ := qq0
        clear hK K qq0
        replace gb := gb.below qq (Nat.le_refl _)
        replace hx := hx.below qq (Nat.le_refl _)
        replace r8 := r8.below qq (Nat.le_refl _)
        replace q1 := btrans q1 qq
        clear qq
        obtain ⟨av, cv, rfl, rv⟩ := row_of_owns own
        refine held_reads (rs := [11, 12, 13, 14]) (fuel := 0) (by kernel_rfl) (fun c d v a w h => by cases d <;> exact h) (by kernel_rfl) (Since.refl _) (fun K hK => ?_)
        go_simp
        refine calm_do (.string (strOfNums (pageOf R x y z))) rfl (by rfl) (fun w' hw' => ?_) ?_
        · have hcc := conv_row Try.underlying30 Try.underlying5 Try.underlying9 (rv.below hw' (Nat.le_refl _))
          go_simp
        go_simp
        refine calm_do (.bool true) rfl (by rfl) (fun w' hw' => ?_) ?_
        · go_simp
        go_simp
        refine calm_do (.bool true) rfl (by rfl) (fun w' hw' => ?_) ?_
        · go_simp
        go_simp
        refine calm_assign _ rfl (by rfl) rfl ?_
        go_simp
        refine calm_nil (hK.out _ ?_)
        clear hK K
        refine wpAnyH_done (by kernel_rfl) ?_ _
        go_wp2
        go_ret
        exact ⟨rfl, q1⟩
    · have hX5 : (C : Int) < X := by omega
      cases hh : mayH C x y z
      · go_enter Try.func3, Try.ntmps3
        go_wp2_with fail
        have gb := gbox_ahead w 23 b p s n f (.cells #[.int .i64 x, .int .i64 y, .int .i64 z] 25)
        have hx := hbox_two w (.cells #[.int .i64 b, .int .i64 p, .int .i64 s, .int .i64 n, .int .i64 f] 23) 25 x y z
        have q1 := below_two w (.cells #[.int .i64 b, .int .i64 p, .int .i64 s, .int .i64 n, .int .i64 f] 23) (.cells #[.int .i64 x, .int .i64 y, .int .i64 z] 25)
        generalize (w.alloc (.cells #[.int .i64 b, .int .i64 p, .int .i64 s, .int .i64 n, .int .i64 f] 23)).alloc (.cells #[.int .i64 x, .int .i64 y, .int .i64 z] 25) = w0 at *
        generalize hgg : w.heap.size = g at gb hx
        refine (hCap_yes G _).mono ?_
        rintro e w1 ⟨rfl, qq⟩
        replace gb := gb.below qq (Nat.le_refl _)
        replace hx := hx.below qq (Nat.le_refl _)
        replace q1 := btrans q1 qq
        clear qq
        have gb_ := gb
        obtain ⟨_, c0, c1, c2, c3, c4⟩ := gb_
        have hx_ := hx
        obtain ⟨_, hxd0, hxd1, hxd2⟩ := hx_
        go_wp2_with fail
        clear c0 c1 c2 c3 c4
        clear hxd0 hxd1 hxd2
        refine (hPages_no G X _ hX).mono ?_
        rintro e w2 ⟨rfl, qq⟩
        replace gb := gb.below qq (Nat.le_refl _)
        replace hx := hx.below qq (Nat.le_refl _)
        replace q1 := btrans q1 qq
        clear qq
        have gb_ := gb
        obtain ⟨_, c0, c1, c2, c3, c4⟩ := gb_
        have hx_ := hx
        obtain ⟨_, hxd0, hxd1, hxd2⟩ := hx_
        go_wp2_with fail
        clear c0 c1 c2 c3 c4
        clear hxd0 hxd1 hxd2
        refine (hBytes_no G x y z _ hh).mono ?_
        rintro e w3 ⟨rfl, qq⟩
        replace gb := gb.below qq (Nat.le_refl _)
        replace hx := hx.below qq (Nat.le_refl _)
        replace q1 := btrans q1 qq
        clear qq
        have gb_ := gb
        obtain ⟨_, c0, c1, c2, c3, c4⟩ := gb_
        have hx_ := hx
        obtain ⟨_, hxd0, hxd1, hxd2⟩ := hx_
        go_wp2_with fail
        clear c0 c1 c2 c3 c4
        clear hxd0 hxd1 hxd2
        refine (refMay_any b p s n f _).mono ?_
        rintro e w4 ⟨rfl, qq⟩
        replace gb := gb.below qq (Nat.le_refl _)
        replace hx := hx.below qq (Nat.le_refl _)
        replace q1 := btrans q1 qq
        clear qq
        rw [hm]
        have gb_ := gb
        obtain ⟨_, c0, c1, c2, c3, c4⟩ := gb_
        have hx_ := hx
        obtain ⟨_, hxd0, hxd1, hxd2⟩ := hx_
        go_wp2_with fail
        clear c0 c1 c2 c3 c4
        clear hxd0 hxd1 hxd2
        refine (hcp _).mono ?_
        rintro e w5 ⟨rfl, qq⟩
        replace gb := gb.below qq (Nat.le_refl _)
        replace hx := hx.below qq (Nat.le_refl _)
        replace q1 := btrans q1 qq
        clear qq
        have gb_ := gb
        obtain ⟨_, c0, c1, c2, c3, c4⟩ := gb_
        have hx_ := hx
        obtain ⟨_, hxd0, hxd1, hxd2⟩ := hx_
        go_wp2_with fail
        clear c0 c1 c2 c3 c4
        clear hxd0 hxd1 hxd2
        refine (hmy _).mono ?_
        rintro e w6 ⟨rfl, qq⟩
        replace gb := gb.below qq (Nat.le_refl _)
        replace hx := hx.below qq (Nat.le_refl _)
        replace q1 := btrans q1 qq
        clear qq
        rw [hh]
        have gb_ := gb
        obtain ⟨_, c0, c1, c2, c3, c4⟩ := gb_
        have hx_ := hx
        obtain ⟨_, hxd0, hxd1, hxd2⟩ := hx_
        go_wp2_with fail
        clear c0 c1 c2 c3 c4
        clear hxd0 hxd1 hxd2
        refine (awake9_any _).mono ?_
        rintro e w7 ⟨rfl, qq⟩
        replace gb := gb.below qq (Nat.le_refl _)
        replace hx := hx.below qq (Nat.le_refl _)
        replace q1 := btrans q1 qq
        clear qq
        have gb_ := gb
        obtain ⟨_, c0, c1, c2, c3, c4⟩ := gb_
        have hx_ := hx
        obtain ⟨_, hxd0, hxd1, hxd2⟩ := hx_
        go_wp2_with fail
        go_ret
        exact ⟨rfl, q1⟩
      · go_enter Try.func3, Try.ntmps3
        go_wp2_with fail
        have gb := gbox_ahead w 23 b p s n f (.cells #[.int .i64 x, .int .i64 y, .int .i64 z] 25)
        have hx := hbox_two w (.cells #[.int .i64 b, .int .i64 p, .int .i64 s, .int .i64 n, .int .i64 f] 23) 25 x y z
        have q1 := below_two w (.cells #[.int .i64 b, .int .i64 p, .int .i64 s, .int .i64 n, .int .i64 f] 23) (.cells #[.int .i64 x, .int .i64 y, .int .i64 z] 25)
        generalize (w.alloc (.cells #[.int .i64 b, .int .i64 p, .int .i64 s, .int .i64 n, .int .i64 f] 23)).alloc (.cells #[.int .i64 x, .int .i64 y, .int .i64 z] 25) = w0 at *
        generalize hgg : w.heap.size = g at gb hx
        refine (hCap_yes G _).mono ?_
        rintro e w1 ⟨rfl, qq⟩
        replace gb := gb.below qq (Nat.le_refl _)
        replace hx := hx.below qq (Nat.le_refl _)
        replace q1 := btrans q1 qq
        clear qq
        have gb_ := gb
        obtain ⟨_, c0, c1, c2, c3, c4⟩ := gb_
        have hx_ := hx
        obtain ⟨_, hxd0, hxd1, hxd2⟩ := hx_
        go_wp2_with fail
        clear c0 c1 c2 c3 c4
        clear hxd0 hxd1 hxd2
        refine (hPages_no G X _ hX).mono ?_
        rintro e w2 ⟨rfl, qq⟩
        replace gb := gb.below qq (Nat.le_refl _)
        replace hx := hx.below qq (Nat.le_refl _)
        replace q1 := btrans q1 qq
        clear qq
        have gb_ := gb
        obtain ⟨_, c0, c1, c2, c3, c4⟩ := gb_
        have hx_ := hx
        obtain ⟨_, hxd0, hxd1, hxd2⟩ := hx_
        go_wp2_with fail
        clear c0 c1 c2 c3 c4
        clear hxd0 hxd1 hxd2
        refine (hBytes_yes G x y z _ hh).mono ?_
        rintro e w3 ⟨g3, _, rfl, own, qq⟩
        obtain ⟨a3, c3, he, r8⟩ := row_of_owns own
        cases he
        clear own
        replace gb := gb.below qq (Nat.le_refl _)
        replace hx := hx.below qq (Nat.le_refl _)
        replace q1 := btrans q1 qq
        clear qq
        have gb_ := gb
        obtain ⟨_, c0, c1, c2, c3, c4⟩ := gb_
        have hx_ := hx
        obtain ⟨_, hxd0, hxd1, hxd2⟩ := hx_
        go_wp2_with fail
        clear c0 c1 c2 c3 c4
        clear hxd0 hxd1 hxd2
        refine (refMay_any b p s n f _).mono ?_
        rintro e w4 ⟨rfl, qq⟩
        replace gb := gb.below qq (Nat.le_refl _)
        replace hx := hx.below qq (Nat.le_refl _)
        replace r8 := r8.below qq (Nat.le_refl _)
        replace q1 := btrans q1 qq
        clear qq
        rw [hm]
        have gb_ := gb
        obtain ⟨_, c0, c1, c2, c3, c4⟩ := gb_
        have hx_ := hx
        obtain ⟨_, hxd0, hxd1, hxd2⟩ := hx_
        go_wp2_with fail
        clear c0 c1 c2 c3 c4
        clear hxd0 hxd1 hxd2
        refine (hcp _).mono ?_
        rintro e w5 ⟨rfl, qq⟩
        replace gb := gb.below qq (Nat.le_refl _)
        replace hx := hx.below qq (Nat.le_refl _)
        replace r8 := r8.below qq (Nat.le_refl _)
        replace q1 := btrans q1 qq
        clear qq
        have gb_ := gb
        obtain ⟨_, c0, c1, c2, c3, c4⟩ := gb_
        have hx_ := hx
        obtain ⟨_, hxd0, hxd1, hxd2⟩ := hx_
        go_wp2_with fail
        clear c0 c1 c2 c3 c4
        clear hxd0 hxd1 hxd2
        refine (hmy _).mono ?_
        rintro e w6 ⟨rfl, qq⟩
        replace gb := gb.below qq (Nat.le_refl _)
        replace hx := hx.below qq (Nat.le_refl _)
        replace r8 := r8.below qq (Nat.le_refl _)
        replace q1 := btrans q1 qq
        clear qq
        rw [hh]
        have gb_ := gb
        obtain ⟨_, c0, c1, c2, c3, c4⟩ := gb_
        have hx_ := hx
        obtain ⟨_, hxd0, hxd1, hxd2⟩ := hx_
        go_upto_region 15 with fail
        clear c0 c1 c2 c3 c4
        clear hxd0 hxd1 hxd2
        refine held_begin (by kernel_rfl) ?_
        refine held_call (i := 0) (fuel := 14) (by kernel_rfl) rfl (by rfl) (fun K hK => ?_)
        go_simp
        have qd := Since.drew w6
        replace gb := gb.below qd (Nat.le_refl _)
        replace hx := hx.below qd (Nat.le_refl _)
        replace r8 := r8.below qd (Nat.le_refl _)
        replace q1 := btrans q1 qd
        clear qd
        refine (awake9_any _).mono ?_
        rintro e w7 ⟨rfl, qq0⟩
        refine hK _ _ (Since.trans (Since.drew _) qq0) ?_
        have qq : Since _ _ := qq0
        clear hK K qq0
        replace gb := gb.below qq (Nat.le_refl _)
        replace hx := hx.below qq (Nat.le_refl _)
        replace r8 := r8.below qq (Nat.le_refl _)
        replace q1 := btrans q1 qq
        clear qq
        refine held_reads (rs := [1, 2, 3, 4, 5, 6, 7, 8, 9]) (fuel := 5) (by kernel_rfl) (fun c d v a w h => by cases d <;> exact h) (by kernel_rfl) (Since.refl _) (fun K hK => ?_)
        go_simp
        refine calm_move _ rfl (by rfl) rfl ?_
        go_simp
        refine calm_move _ rfl (by rfl) rfl ?_
        go_simp
        refine calm_do (.bool true) rfl (by rfl) (fun w' hw' => ?_) ?_
        · go_simp
        go_simp
        refine calm_do (.bool true) rfl (by rfl) (fun w' hw' => ?_) ?_
        · go_simp
        go_simp
        refine calm_move _ rfl (by rfl) rfl ?_
        go_simp
        refine calm_move _ rfl (by rfl) rfl ?_
        go_simp
        refine calm_do (.string (strOfNums (pageOf R x y z))) rfl (by rfl) (fun w' hw' => ?_) ?_
        · have hcc := conv_row Try.underlying30 Try.underlying5 Try.underlying9 (r8.below hw' (Nat.le_refl _))
          go_simp
        go_simp
        refine calm_do (.agg #[.int .i64 b, .int .i64 p, .int .i64 s, .int .i64 n, .int .i64 f]) rfl (by rfl) (fun w' hw' => ?_) ?_
        · have gb' := gb.below hw' (Nat.le_refl _)
          obtain ⟨_, c0, c1, c2, c3, c4⟩ := gb'
          go_simp
        go_simp
        refine calm_do (.agg #[.int .i64 x, .int .i64 y, .int .i64 z]) rfl (by rfl) (fun w' hw' => ?_) ?_
        · have hx' := hx.below hw' (Nat.le_refl _)
          obtain ⟨_, d0, d1, d2⟩ := hx'
          go_simp
        go_simp
        refine calm_nil (hK.out _ ?_)
        clear hK K
        refine held_call (i := 10) (fuel := 4) (by kernel_rfl) rfl (by rfl) (fun K hK => ?_)
        go_simp
        refine (refBytes9_any G x y z _ hh).mono ?_
        rintro e w8 ⟨v, rfl, own, qq0⟩
        refine hK _ _ (Since.trans (Since.refl _) qq0) ?_
        have qq : Since _ _ := qq0
        clear hK K qq0
        replace gb := gb.below qq (Nat.le_refl _)
        replace hx := hx.below qq (Nat.le_refl _)
        replace r8 := r8.below qq (Nat.le_refl _)
        replace q1 := btrans q1 qq
        clear qq
        obtain ⟨av, cv, rfl, rv⟩ := row_of_owns own
        refine held_reads (rs := [11, 12, 13, 14]) (fuel := 0) (by kernel_rfl) (fun c d v a w h => by cases d <;> exact h) (by kernel_rfl) (Since.refl _) (fun K hK => ?_)
        go_simp
        refine calm_do (.string (strOfNums (pageOf R x y z))) rfl (by rfl) (fun w' hw' => ?_) ?_
        · have hcc := conv_row Try.underlying30 Try.underlying5 Try.underlying9 (rv.below hw' (Nat.le_refl _))
          go_simp
        go_simp
        refine calm_do (.bool true) rfl (by rfl) (fun w' hw' => ?_) ?_
        · go_simp
        go_simp
        refine calm_do (.bool true) rfl (by rfl) (fun w' hw' => ?_) ?_
        · go_simp
        go_simp
        refine calm_assign _ rfl (by rfl) rfl ?_
        go_simp
        refine calm_nil (hK.out _ ?_)
        clear hK K
        refine wpAnyH_done (by kernel_rfl) ?_ _
        go_wp2
        go_ret
        exact ⟨rfl, q1⟩
  · cases hh : mayH C x y z
    · have hX2 := withB_yes hX
      obtain ⟨X, rfl⟩ := Int.eq_ofNat_of_zero_le hX2.1
      have hX3 : ¬ (X : Int) < 0 := by omega
      have hX4 : ¬ (C : Int) < (X : Int) := by omega
      clear hX hX2
      have hXC : X ≤ C := by omega
      go_enter Try.func3, Try.ntmps3
      go_wp2_with fail
      have gb := gbox_ahead w 23 b p s n f (.cells #[.int .i64 x, .int .i64 y, .int .i64 z] 25)
      have hx := hbox_two w (.cells #[.int .i64 b, .int .i64 p, .int .i64 s, .int .i64 n, .int .i64 f] 23) 25 x y z
      have q1 := below_two w (.cells #[.int .i64 b, .int .i64 p, .int .i64 s, .int .i64 n, .int .i64 f] 23) (.cells #[.int .i64 x, .int .i64 y, .int .i64 z] 25)
      generalize (w.alloc (.cells #[.int .i64 b, .int .i64 p, .int .i64 s, .int .i64 n, .int .i64 f] 23)).alloc (.cells #[.int .i64 x, .int .i64 y, .int .i64 z] 25) = w0 at *
      generalize hgg : w.heap.size = g at gb hx
      refine (hCap_yes G _).mono ?_
      rintro e w1 ⟨rfl, qq⟩
      replace gb := gb.below qq (Nat.le_refl _)
      replace hx := hx.below qq (Nat.le_refl _)
      replace q1 := btrans q1 qq
      clear qq
      have gb_ := gb
      obtain ⟨_, c0, c1, c2, c3, c4⟩ := gb_
      have hx_ := hx
      obtain ⟨_, hxd0, hxd1, hxd2⟩ := hx_
      go_wp2_with fail
      clear c0 c1 c2 c3 c4
      clear hxd0 hxd1 hxd2
      refine (hPages_yes G X _ hXC).mono ?_
      rintro e w2 ⟨rfl, qq⟩
      replace gb := gb.below qq (Nat.le_refl _)
      replace hx := hx.below qq (Nat.le_refl _)
      replace q1 := btrans q1 qq
      clear qq
      have gb_ := gb
      obtain ⟨_, c0, c1, c2, c3, c4⟩ := gb_
      have hx_ := hx
      obtain ⟨_, hxd0, hxd1, hxd2⟩ := hx_
      go_wp2_with fail
      clear c0 c1 c2 c3 c4
      clear hxd0 hxd1 hxd2
      refine (hBytes_no G x y z _ hh).mono ?_
      rintro e w3 ⟨rfl, qq⟩
      replace gb := gb.below qq (Nat.le_refl _)
      replace hx := hx.below qq (Nat.le_refl _)
      replace q1 := btrans q1 qq
      clear qq
      have gb_ := gb
      obtain ⟨_, c0, c1, c2, c3, c4⟩ := gb_
      have hx_ := hx
      obtain ⟨_, hxd0, hxd1, hxd2⟩ := hx_
      go_wp2_with fail
      clear c0 c1 c2 c3 c4
      clear hxd0 hxd1 hxd2
      refine (refMay_any b p s n f _).mono ?_
      rintro e w4 ⟨rfl, qq⟩
      replace gb := gb.below qq (Nat.le_refl _)
      replace hx := hx.below qq (Nat.le_refl _)
      replace q1 := btrans q1 qq
      clear qq
      rw [hm]
      have gb_ := gb
      obtain ⟨_, c0, c1, c2, c3, c4⟩ := gb_
      have hx_ := hx
      obtain ⟨_, hxd0, hxd1, hxd2⟩ := hx_
      go_wp2_with fail
      clear c0 c1 c2 c3 c4
      clear hxd0 hxd1 hxd2
      refine (hcp _).mono ?_
      rintro e w5 ⟨rfl, qq⟩
      replace gb := gb.below qq (Nat.le_refl _)
      replace hx := hx.below qq (Nat.le_refl _)
      replace q1 := btrans q1 qq
      clear qq
      have gb_ := gb
      obtain ⟨_, c0, c1, c2, c3, c4⟩ := gb_
      have hx_ := hx
      obtain ⟨_, hxd0, hxd1, hxd2⟩ := hx_
      go_wp2_with fail
      clear c0 c1 c2 c3 c4
      clear hxd0 hxd1 hxd2
      refine (refPages9_any G X _ hXC).mono ?_
      rintro e w6 ⟨rfl, qq⟩
      replace gb := gb.below qq (Nat.le_refl _)
      replace hx := hx.below qq (Nat.le_refl _)
      replace q1 := btrans q1 qq
      clear qq
      have gb_ := gb
      obtain ⟨_, c0, c1, c2, c3, c4⟩ := gb_
      have hx_ := hx
      obtain ⟨_, hxd0, hxd1, hxd2⟩ := hx_
      go_wp2_with fail
      clear c0 c1 c2 c3 c4
      clear hxd0 hxd1 hxd2
      refine (hmy _).mono ?_
      rintro e w7 ⟨rfl, qq⟩
      replace gb := gb.below qq (Nat.le_refl _)
      replace hx := hx.below qq (Nat.le_refl _)
      replace q1 := btrans q1 qq
      clear qq
      rw [hh]
      have gb_ := gb
      obtain ⟨_, c0, c1, c2, c3, c4⟩ := gb_
      have hx_ := hx
      obtain ⟨_, hxd0, hxd1, hxd2⟩ := hx_
      go_wp2_with fail
      clear c0 c1 c2 c3 c4
      clear hxd0 hxd1 hxd2
      refine (awake9_any _).mono ?_
      rintro e w8 ⟨rfl, qq⟩
      replace gb := gb.below qq (Nat.le_refl _)
      replace hx := hx.below qq (Nat.le_refl _)
      replace q1 := btrans q1 qq
      clear qq
      have gb_ := gb
      obtain ⟨_, c0, c1, c2, c3, c4⟩ := gb_
      have hx_ := hx
      obtain ⟨_, hxd0, hxd1, hxd2⟩ := hx_
      go_wp2_with fail
      go_ret
      exact ⟨rfl, q1⟩
    · have hX2 := withB_yes hX
      obtain ⟨X, rfl⟩ := Int.eq_ofNat_of_zero_le hX2.1
      have hX3 : ¬ (X : Int) < 0 := by omega
      have hX4 : ¬ (C : Int) < (X : Int) := by omega
      clear hX hX2
      have hXC : X ≤ C := by omega
      go_enter Try.func3, Try.ntmps3
      go_wp2_with fail
      have gb := gbox_ahead w 23 b p s n f (.cells #[.int .i64 x, .int .i64 y, .int .i64 z] 25)
      have hx := hbox_two w (.cells #[.int .i64 b, .int .i64 p, .int .i64 s, .int .i64 n, .int .i64 f] 23) 25 x y z
      have q1 := below_two w (.cells #[.int .i64 b, .int .i64 p, .int .i64 s, .int .i64 n, .int .i64 f] 23) (.cells #[.int .i64 x, .int .i64 y, .int .i64 z] 25)
      generalize (w.alloc (.cells #[.int .i64 b, .int .i64 p, .int .i64 s, .int .i64 n, .int .i64 f] 23)).alloc (.cells #[.int .i64 x, .int .i64 y, .int .i64 z] 25) = w0 at *
      generalize hgg : w.heap.size = g at gb hx
      refine (hCap_yes G _).mono ?_
      rintro e w1 ⟨rfl, qq⟩
      replace gb := gb.below qq (Nat.le_refl _)
      replace hx := hx.below qq (Nat.le_refl _)
      replace q1 := btrans q1 qq
      clear qq
      have gb_ := gb
      obtain ⟨_, c0, c1, c2, c3, c4⟩ := gb_
      have hx_ := hx
      obtain ⟨_, hxd0, hxd1, hxd2⟩ := hx_
      go_wp2_with fail
      clear c0 c1 c2 c3 c4
      clear hxd0 hxd1 hxd2
      refine (hPages_yes G X _ hXC).mono ?_
      rintro e w2 ⟨rfl, qq⟩
      replace gb := gb.below qq (Nat.le_refl _)
      replace hx := hx.below qq (Nat.le_refl _)
      replace q1 := btrans q1 qq
      clear qq
      have gb_ := gb
      obtain ⟨_, c0, c1, c2, c3, c4⟩ := gb_
      have hx_ := hx
      obtain ⟨_, hxd0, hxd1, hxd2⟩ := hx_
      go_wp2_with fail
      clear c0 c1 c2 c3 c4
      clear hxd0 hxd1 hxd2
      refine (hBytes_yes G x y z _ hh).mono ?_
      rintro e w3 ⟨g3, _, rfl, own, qq⟩
      obtain ⟨a3, c3, he, r8⟩ := row_of_owns own
      cases he
      clear own
      replace gb := gb.below qq (Nat.le_refl _)
      replace hx := hx.below qq (Nat.le_refl _)
      replace q1 := btrans q1 qq
      clear qq
      have gb_ := gb
      obtain ⟨_, c0, c1, c2, c3, c4⟩ := gb_
      have hx_ := hx
      obtain ⟨_, hxd0, hxd1, hxd2⟩ := hx_
      go_wp2_with fail
      clear c0 c1 c2 c3 c4
      clear hxd0 hxd1 hxd2
      refine (refMay_any b p s n f _).mono ?_
      rintro e w4 ⟨rfl, qq⟩
      replace gb := gb.below qq (Nat.le_refl _)
      replace hx := hx.below qq (Nat.le_refl _)
      replace r8 := r8.below qq (Nat.le_refl _)
      replace q1 := btrans q1 qq
      clear qq
      rw [hm]
      have gb_ := gb
      obtain ⟨_, c0, c1, c2, c3, c4⟩ := gb_
      have hx_ := hx
      obtain ⟨_, hxd0, hxd1, hxd2⟩ := hx_
      go_wp2_with fail
      clear c0 c1 c2 c3 c4
      clear hxd0 hxd1 hxd2
      refine (hcp _).mono ?_
      rintro e w5 ⟨rfl, qq⟩
      replace gb := gb.below qq (Nat.le_refl _)
      replace hx := hx.below qq (Nat.le_refl _)
      replace r8 := r8.below qq (Nat.le_refl _)
      replace q1 := btrans q1 qq
      clear qq
      have gb_ := gb
      obtain ⟨_, c0, c1, c2, c3, c4⟩ := gb_
      have hx_ := hx
      obtain ⟨_, hxd0, hxd1, hxd2⟩ := hx_
      go_wp2_with fail
      clear c0 c1 c2 c3 c4
      clear hxd0 hxd1 hxd2
      refine (refPages9_any G X _ hXC).mono ?_
      rintro e w6 ⟨rfl, qq⟩
      replace gb := gb.below qq (Nat.le_refl _)
      replace hx := hx.below qq (Nat.le_refl _)
      replace r8 := r8.below qq (Nat.le_refl _)
      replace q1 := btrans q1 qq
      clear qq
      have gb_ := gb
      obtain ⟨_, c0, c1, c2, c3, c4⟩ := gb_
      have hx_ := hx
      obtain ⟨_, hxd0, hxd1, hxd2⟩ := hx_
      go_wp2_with fail
      clear c0 c1 c2 c3 c4
      clear hxd0 hxd1 hxd2
      refine (hmy _).mono ?_
      rintro e w7 ⟨rfl, qq⟩
      replace gb := gb.below qq (Nat.le_refl _)
      replace hx := hx.below qq (Nat.le_refl _)
      replace r8 := r8.below qq (Nat.le_refl _)
      replace q1 := btrans q1 qq
      clear qq
      rw [hh]
      have gb_ := gb
      obtain ⟨_, c0, c1, c2, c3, c4⟩ := gb_
      have hx_ := hx
      obtain ⟨_, hxd0, hxd1, hxd2⟩ := hx_
      go_upto_region 15 with fail
      clear c0 c1 c2 c3 c4
      clear hxd0 hxd1 hxd2
      refine held_begin (by kernel_rfl) ?_
      refine held_call (i := 0) (fuel := 14) (by kernel_rfl) rfl (by rfl) (fun K hK => ?_)
      go_simp
      have qd := Since.drew w7
      replace gb := gb.below qd (Nat.le_refl _)
      replace hx := hx.below qd (Nat.le_refl _)
      replace r8 := r8.below qd (Nat.le_refl _)
      replace q1 := btrans q1 qd
      clear qd
      refine (awake9_any _).mono ?_
      rintro e w8 ⟨rfl, qq0⟩
      refine hK _ _ (Since.trans (Since.drew _) qq0) ?_
      have qq : Since _ _ := qq0
      clear hK K qq0
      replace gb := gb.below qq (Nat.le_refl _)
      replace hx := hx.below qq (Nat.le_refl _)
      replace r8 := r8.below qq (Nat.le_refl _)
      replace q1 := btrans q1 qq
      clear qq
      refine held_reads (rs := [1, 2, 3, 4, 5, 6, 7, 8, 9]) (fuel := 5) (by kernel_rfl) (fun c d v a w h => by cases d <;> exact h) (by kernel_rfl) (Since.refl _) (fun K hK => ?_)
      go_simp
      refine calm_move _ rfl (by rfl) rfl ?_
      go_simp
      refine calm_move _ rfl (by rfl) rfl ?_
      go_simp
      refine calm_do (.bool true) rfl (by rfl) (fun w' hw' => ?_) ?_
      · go_simp
      go_simp
      refine calm_do (.bool true) rfl (by rfl) (fun w' hw' => ?_) ?_
      · go_simp
      go_simp
      refine calm_move _ rfl (by rfl) rfl ?_
      go_simp
      refine calm_move _ rfl (by rfl) rfl ?_
      go_simp
      refine calm_do (.string (strOfNums (pageOf R x y z))) rfl (by rfl) (fun w' hw' => ?_) ?_
      · have hcc := conv_row Try.underlying30 Try.underlying5 Try.underlying9 (r8.below hw' (Nat.le_refl _))
        go_simp
      go_simp
      refine calm_do (.agg #[.int .i64 b, .int .i64 p, .int .i64 s, .int .i64 n, .int .i64 f]) rfl (by rfl) (fun w' hw' => ?_) ?_
      · have gb' := gb.below hw' (Nat.le_refl _)
        obtain ⟨_, c0, c1, c2, c3, c4⟩ := gb'
        go_simp
      go_simp
      refine calm_do (.agg #[.int .i64 x, .int .i64 y, .int .i64 z]) rfl (by rfl) (fun w' hw' => ?_) ?_
      · have hx' := hx.below hw' (Nat.le_refl _)
        obtain ⟨_, d0, d1, d2⟩ := hx'
        go_simp
      go_simp
      refine calm_nil (hK.out _ ?_)
      clear hK K
      refine held_call (i := 10) (fuel := 4) (by kernel_rfl) rfl (by rfl) (fun K hK => ?_)
      go_simp
      refine (refBytes9_any G x y z _ hh).mono ?_
      rintro e w9 ⟨v, rfl, own, qq0⟩
      refine hK _ _ (Since.trans (Since.refl _) qq0) ?_
      have qq : Since _ _ := qq0
      clear hK K qq0
      replace gb := gb.below qq (Nat.le_refl _)
      replace hx := hx.below qq (Nat.le_refl _)
      replace r8 := r8.below qq (Nat.le_refl _)
      replace q1 := btrans q1 qq
      clear qq
      obtain ⟨av, cv, rfl, rv⟩ := row_of_owns own
      refine held_reads (rs := [11, 12, 13, 14]) (fuel := 0) (by kernel_rfl) (fun c d v a w h => by cases d <;> exact h) (by kernel_rfl) (Since.refl _) (fun K hK => ?_)
      go_simp
      refine calm_do (.string (strOfNums (pageOf R x y z))) rfl (by rfl) (fun w' hw' => ?_) ?_
      · have hcc := conv_row Try.underlying30 Try.underlying5 Try.underlying9 (rv.below hw' (Nat.le_refl _))
        go_simp
      go_simp
      refine calm_do (.bool true) rfl (by rfl) (fun w' hw' => ?_) ?_
      · go_simp
      go_simp
      refine calm_do (.bool true) rfl (by rfl) (fun w' hw' => ?_) ?_
      · go_simp
      go_simp
      refine calm_assign _ rfl (by rfl) rfl ?_
      go_simp
      refine calm_nil (hK.out _ ?_)
      clear hK K
      refine wpAnyH_done (by kernel_rfl) ?_ _
      go_wp2
      go_ret
      exact ⟨rfl, q1⟩
theorem hParse_page {b p : Int} {s n : Nat} {f : Int} {R C : Nat} (G : GMay b p s n f R C) (a : Option Addr) (cap : Nat) (x y z : Int) (w : World) (hh : mayH C x y z = true) (hr : Row .u8 w a R cap (pageOf R x y z)) :
    Calls Try.prog 17 #[.agg #[.int .i64 b, .int .i64 p, .int .i64 ((s : Nat)), .int .i64 ((n : Nat)), .int .i64 f], .slice a R cap] w fun e w' => e = .returned (.tuple #[.agg #[.int .i64 x, .int .i64 y, .int .i64 z], .int .i64 0]) ∧ Below w.heap.size w w' := by
  obtain ⟨e0, e1, e2, h⟩ := readH_page (R := R) G.C32 hh
  have hc := hParse_yes G a cap _ w hr (isB_page _ _ _ _) h
  rw [e0, e1, e2] at hc
  exact hc
set_option maxHeartbeats 12800000 in
set_option maxRecDepth 100000 in
theorem walk_headBack (b p s n f x y z x' y' z' : Int) (w : World) : Calls Try.prog 5 #[.agg #[.int .i64 b, .int .i64 p, .int .i64 s, .int .i64 n, .int .i64 f], .agg #[.int .i64 x, .int .i64 y, .int .i64 z], .agg #[.int .i64 x', .int .i64 y', .int .i64 z']] w fun e w' => e = .returned (.bool true) ∧ Below w.heap.size w w' := by
  cases hm : mayG b p s n f
  · go_enter Try.func5, Try.ntmps5
    go_wp2_with fail
    have gb := (gbox_ahead w 23 b p s n f (.cells #[.int .i64 x, .int .i64 y, .int .i64 z] 25)).below (below_one _ (.cells #[.int .i64 x', .int .i64 y', .int .i64 z'] 25)) (Nat.le_refl _)
    have hx := (hbox_two w (.cells #[.int .i64 b, .int .i64 p, .int .i64 s, .int .i64 n, .int .i64 f] 23) 25 x y z).below (below_one _ (.cells #[.int .i64 x', .int .i64 y', .int .i64 z'] 25)) (Nat.le_refl _)
    have hy := hbox_three w (.cells #[.int .i64 b, .int .i64 p, .int .i64 s, .int .i64 n, .int .i64 f] 23) (.cells #[.int .i64 x, .int .i64 y, .int .i64 z] 25) 25 x' y' z'
    have q1 := below_three w (.cells #[.int .i64 b, .int .i64 p, .int .i64 s, .int .i64 n, .int .i64 f] 23) (.cells #[.int .i64 x, .int .i64 y, .int .i64 z] 25) (.cells #[.int .i64 x', .int .i64 y', .int .i64 z'] 25)
    generalize ((w.alloc (.cells #[.int .i64 b, .int .i64 p, .int .i64 s, .int .i64 n, .int .i64 f] 23)).alloc (.cells #[.int .i64 x, .int .i64 y, .int .i64 z] 25)).alloc (.cells #[.int .i64 x', .int .i64 y', .int .i64 z'] 25) = w0 at *
    generalize hgg : w.heap.size = g at gb hx hy
    refine (hBytes_geo b p s n f x y z _ hm).mono ?_
    rintro e w1 ⟨rfl, qq⟩
    replace gb := gb.below qq (Nat.le_refl _)
    replace hx := hx.below qq (Nat.le_refl _)
    replace hy := hy.below qq (Nat.le_refl _)
    replace q1 := btrans q1 qq
    clear qq
    have gb_ := gb
    obtain ⟨_, c0, c1, c2, c3, c4⟩ := gb_
    have hx_ := hx
    obtain ⟨_, hxd0, hxd1, hxd2⟩ := hx_
    have hy_ := hy
    obtain ⟨_, hyd0, hyd1, hyd2⟩ := hy_
    go_wp2_with fail
    clear c0 c1 c2 c3 c4
    clear hxd0 hxd1 hxd2
    clear hyd0 hyd1 hyd2
    refine (hBytes_geo b p s n f x' y' z' _ hm).mono ?_
    rintro e w2 ⟨rfl, qq⟩
    replace gb := gb.below qq (Nat.le_refl _)
    replace hx := hx.below qq (Nat.le_refl _)
    replace hy := hy.below qq (Nat.le_refl _)
    replace q1 := btrans q1 qq
    clear qq
    have gb_ := gb
    obtain ⟨_, c0, c1, c2, c3, c4⟩ := gb_
    have hx_ := hx
    obtain ⟨_, hxd0, hxd1, hxd2⟩ := hx_
    have hy_ := hy
    obtain ⟨_, hyd0, hyd1, hyd2⟩ := hy_
    go_wp2_with fail
    clear c0 c1 c2 c3 c4
    clear hxd0 hxd1 hxd2
    clear hyd0 hyd1 hyd2
    refine (awake9_any _).mono ?_
    rintro e w3 ⟨rfl, qq⟩
    replace gb := gb.below qq (Nat.le_refl _)
    replace hx := hx.below qq (Nat.le_refl _)
    replace hy := hy.below qq (Nat.le_refl _)
    replace q1 := btrans q1 qq
    clear qq
    have gb_ := gb
    obtain ⟨_, c0, c1, c2, c3, c4⟩ := gb_
    have hx_ := hx
    obtain ⟨_, hxd0, hxd1, hxd2⟩ := hx_
    have hy_ := hy
    obtain ⟨_, hyd0, hyd1, hyd2⟩ := hy_
    go_wp2_with fail
    go_ret
    exact ⟨rfl, q1⟩
  obtain ⟨s, n, R, C, rfl, rfl, G⟩ := gmay_of hm
  clear hm
  cases hh : mayH C x y z
  · cases hi : mayH C x' y' z'
    · go_enter Try.func5, Try.ntmps5
      go_wp2_with fail
      have gb := (gbox_ahead w 23 b p s n f (.cells #[.int .i64 x, .int .i64 y, .int .i64 z] 25)).below (below_one _ (.cells #[.int .i64 x', .int .i64 y', .int .i64 z'] 25)) (Nat.le_refl _)
      have hx := (hbox_two w (.cells #[.int .i64 b, .int .i64 p, .int .i64 s, .int .i64 n, .int .i64 f] 23) 25 x y z).below (below_one _ (.cells #[.int .i64 x', .int .i64 y', .int .i64 z'] 25)) (Nat.le_refl _)
      have hy := hbox_three w (.cells #[.int .i64 b, .int .i64 p, .int .i64 s, .int .i64 n, .int .i64 f] 23) (.cells #[.int .i64 x, .int .i64 y, .int .i64 z] 25) 25 x' y' z'
      have q1 := below_three w (.cells #[.int .i64 b, .int .i64 p, .int .i64 s, .int .i64 n, .int .i64 f] 23) (.cells #[.int .i64 x, .int .i64 y, .int .i64 z] 25) (.cells #[.int .i64 x', .int .i64 y', .int .i64 z'] 25)
      generalize ((w.alloc (.cells #[.int .i64 b, .int .i64 p, .int .i64 s, .int .i64 n, .int .i64 f] 23)).alloc (.cells #[.int .i64 x, .int .i64 y, .int .i64 z] 25)).alloc (.cells #[.int .i64 x', .int .i64 y', .int .i64 z'] 25) = w0 at *
      generalize hgg : w.heap.size = g at gb hx hy
      refine (hBytes_no G x y z _ hh).mono ?_
      rintro e w1 ⟨rfl, qq⟩
      replace gb := gb.below qq (Nat.le_refl _)
      replace hx := hx.below qq (Nat.le_refl _)
      replace hy := hy.below qq (Nat.le_refl _)
      replace q1 := btrans q1 qq
      clear qq
      have gb_ := gb
      obtain ⟨_, c0, c1, c2, c3, c4⟩ := gb_
      have hx_ := hx
      obtain ⟨_, hxd0, hxd1, hxd2⟩ := hx_
      have hy_ := hy
      obtain ⟨_, hyd0, hyd1, hyd2⟩ := hy_
      go_wp2_with fail
      clear c0 c1 c2 c3 c4
      clear hxd0 hxd1 hxd2
      clear hyd0 hyd1 hyd2
      refine (hBytes_no G x' y' z' _ hi).mono ?_
      rintro e w2 ⟨rfl, qq⟩
      replace gb := gb.below qq (Nat.le_refl _)
      replace hx := hx.below qq (Nat.le_refl _)
      replace hy := hy.below qq (Nat.le_refl _)
      replace q1 := btrans q1 qq
      clear qq
      have gb_ := gb
      obtain ⟨_, c0, c1, c2, c3, c4⟩ := gb_
      have hx_ := hx
      obtain ⟨_, hxd0, hxd1, hxd2⟩ := hx_
      have hy_ := hy
      obtain ⟨_, hyd0, hyd1, hyd2⟩ := hy_
      go_wp2_with fail
      clear c0 c1 c2 c3 c4
      clear hxd0 hxd1 hxd2
      clear hyd0 hyd1 hyd2
      refine (awake9_any _).mono ?_
      rintro e w3 ⟨rfl, qq⟩
      replace gb := gb.below qq (Nat.le_refl _)
      replace hx := hx.below qq (Nat.le_refl _)
      replace hy := hy.below qq (Nat.le_refl _)
      replace q1 := btrans q1 qq
      clear qq
      have gb_ := gb
      obtain ⟨_, c0, c1, c2, c3, c4⟩ := gb_
      have hx_ := hx
      obtain ⟨_, hxd0, hxd1, hxd2⟩ := hx_
      have hy_ := hy
      obtain ⟨_, hyd0, hyd1, hyd2⟩ := hy_
      go_wp2_with fail
      go_ret
      exact ⟨rfl, q1⟩
    · go_enter Try.func5, Try.ntmps5
      go_wp2_with fail
      have gb := (gbox_ahead w 23 b p s n f (.cells #[.int .i64 x, .int .i64 y, .int .i64 z] 25)).below (below_one _ (.cells #[.int .i64 x', .int .i64 y', .int .i64 z'] 25)) (Nat.le_refl _)
      have hx := (hbox_two w (.cells #[.int .i64 b, .int .i64 p, .int .i64 s, .int .i64 n, .int .i64 f] 23) 25 x y z).below (below_one _ (.cells #[.int .i64 x', .int .i64 y', .int .i64 z'] 25)) (Nat.le_refl _)
      have hy := hbox_three w (.cells #[.int .i64 b, .int .i64 p, .int .i64 s, .int .i64 n, .int .i64 f] 23) (.cells #[.int .i64 x, .int .i64 y, .int .i64 z] 25) 25 x' y' z'
      have q1 := below_three w (.cells #[.int .i64 b, .int .i64 p, .int .i64 s, .int .i64 n, .int .i64 f] 23) (.cells #[.int .i64 x, .int .i64 y, .int .i64 z] 25) (.cells #[.int .i64 x', .int .i64 y', .int .i64 z'] 25)
      generalize ((w.alloc (.cells #[.int .i64 b, .int .i64 p, .int .i64 s, .int .i64 n, .int .i64 f] 23)).alloc (.cells #[.int .i64 x, .int .i64 y, .int .i64 z] 25)).alloc (.cells #[.int .i64 x', .int .i64 y', .int .i64 z'] 25) = w0 at *
      generalize hgg : w.heap.size = g at gb hx hy
      refine (hBytes_no G x y z _ hh).mono ?_
      rintro e w1 ⟨rfl, qq⟩
      replace gb := gb.below qq (Nat.le_refl _)
      replace hx := hx.below qq (Nat.le_refl _)
      replace hy := hy.below qq (Nat.le_refl _)
      replace q1 := btrans q1 qq
      clear qq
      have gb_ := gb
      obtain ⟨_, c0, c1, c2, c3, c4⟩ := gb_
      have hx_ := hx
      obtain ⟨_, hxd0, hxd1, hxd2⟩ := hx_
      have hy_ := hy
      obtain ⟨_, hyd0, hyd1, hyd2⟩ := hy_
      go_wp2_with fail
      clear c0 c1 c2 c3 c4
      clear hxd0 hxd1 hxd2
      clear hyd0 hyd1 hyd2
      refine (hBytes_yes G x' y' z' _ hi).mono ?_
      rintro e w2 ⟨g2, _, rfl, own, qq⟩
      obtain ⟨a2, c2, he, r9⟩ := row_of_owns own
      cases he
      clear own
      replace gb := gb.below qq (Nat.le_refl _)
      replace hx := hx.below qq (Nat.le_refl _)
      replace hy := hy.below qq (Nat.le_refl _)
      replace q1 := btrans q1 qq
      clear qq
      have gb_ := gb
      obtain ⟨_, c0, c1, c2, c3, c4⟩ := gb_
      have hx_ := hx
      obtain ⟨_, hxd0, hxd1, hxd2⟩ := hx_
      have hy_ := hy
      obtain ⟨_, hyd0, hyd1, hyd2⟩ := hy_
      go_wp2_with fail
      clear c0 c1 c2 c3 c4
      clear hxd0 hxd1 hxd2
      clear hyd0 hyd1 hyd2
      refine (awake9_any _).mono ?_
      rintro e w3 ⟨rfl, qq⟩
      replace gb := gb.below qq (Nat.le_refl _)
      replace hx := hx.below qq (Nat.le_refl _)
      replace hy := hy.below qq (Nat.le_refl _)
      replace r9 := r9.below qq (Nat.le_refl _)
      replace q1 := btrans q1 qq
      clear qq
      have gb_ := gb
      obtain ⟨_, c0, c1, c2, c3, c4⟩ := gb_
      have hx_ := hx
      obtain ⟨_, hxd0, hxd1, hxd2⟩ := hx_
      have hy_ := hy
      obtain ⟨_, hyd0, hyd1, hyd2⟩ := hy_
      go_wp2_with fail
      go_ret
      exact ⟨rfl, q1⟩
  cases hi : mayH C x' y' z'
  · go_enter Try.func5, Try.ntmps5
    go_wp2_with fail
    have gb := (gbox_ahead w 23 b p s n f (.cells #[.int .i64 x, .int .i64 y, .int .i64 z] 25)).below (below_one _ (.cells #[.int .i64 x', .int .i64 y', .int .i64 z'] 25)) (Nat.le_refl _)
    have hx := (hbox_two w (.cells #[.int .i64 b, .int .i64 p, .int .i64 s, .int .i64 n, .int .i64 f] 23) 25 x y z).below (below_one _ (.cells #[.int .i64 x', .int .i64 y', .int .i64 z'] 25)) (Nat.le_refl _)
    have hy := hbox_three w (.cells #[.int .i64 b, .int .i64 p, .int .i64 s, .int .i64 n, .int .i64 f] 23) (.cells #[.int .i64 x, .int .i64 y, .int .i64 z] 25) 25 x' y' z'
    have q1 := below_three w (.cells #[.int .i64 b, .int .i64 p, .int .i64 s, .int .i64 n, .int .i64 f] 23) (.cells #[.int .i64 x, .int .i64 y, .int .i64 z] 25) (.cells #[.int .i64 x', .int .i64 y', .int .i64 z'] 25)
    generalize ((w.alloc (.cells #[.int .i64 b, .int .i64 p, .int .i64 s, .int .i64 n, .int .i64 f] 23)).alloc (.cells #[.int .i64 x, .int .i64 y, .int .i64 z] 25)).alloc (.cells #[.int .i64 x', .int .i64 y', .int .i64 z'] 25) = w0 at *
    generalize hgg : w.heap.size = g at gb hx hy
    refine (hBytes_yes G x y z _ hh).mono ?_
    rintro e w1 ⟨g1, _, rfl, own, qq⟩
    obtain ⟨a1, c1, he, r8⟩ := row_of_owns own
    cases he
    clear own
    replace gb := gb.below qq (Nat.le_refl _)
    replace hx := hx.below qq (Nat.le_refl _)
    replace hy := hy.below qq (Nat.le_refl _)
    replace q1 := btrans q1 qq
    clear qq
    have gb_ := gb
    obtain ⟨_, c0, c1, c2, c3, c4⟩ := gb_
    have hx_ := hx
    obtain ⟨_, hxd0, hxd1, hxd2⟩ := hx_
    have hy_ := hy
    obtain ⟨_, hyd0, hyd1, hyd2⟩ := hy_
    go_wp2_with fail
    clear c0 c1 c2 c3 c4
    clear hxd0 hxd1 hxd2
    clear hyd0 hyd1 hyd2
    refine (hBytes_no G x' y' z' _ hi).mono ?_
    rintro e w2 ⟨rfl, qq⟩
    replace gb := gb.below qq (Nat.le_refl _)
    replace hx := hx.below qq (Nat.le_refl _)
    replace hy := hy.below qq (Nat.le_refl _)
    replace r8 := r8.below qq (Nat.le_refl _)
    replace q1 := btrans q1 qq
    clear qq
    have gb_ := gb
    obtain ⟨_, c0, c1, c2, c3, c4⟩ := gb_
    have hx_ := hx
    obtain ⟨_, hxd0, hxd1, hxd2⟩ := hx_
    have hy_ := hy
    obtain ⟨_, hyd0, hyd1, hyd2⟩ := hy_
    go_wp2_with fail
    clear c0 c1 c2 c3 c4
    clear hxd0 hxd1 hxd2
    clear hyd0 hyd1 hyd2
    refine (awake9_any _).mono ?_
    rintro e w3 ⟨rfl, qq⟩
    replace gb := gb.below qq (Nat.le_refl _)
    replace hx := hx.below qq (Nat.le_refl _)
    replace hy := hy.below qq (Nat.le_refl _)
    replace r8 := r8.below qq (Nat.le_refl _)
    replace q1 := btrans q1 qq
    clear qq
    have gb_ := gb
    obtain ⟨_, c0, c1, c2, c3, c4⟩ := gb_
    have hx_ := hx
    obtain ⟨_, hxd0, hxd1, hxd2⟩ := hx_
    have hy_ := hy
    obtain ⟨_, hyd0, hyd1, hyd2⟩ := hy_
    go_wp2_with fail
    go_ret
    exact ⟨rfl, q1⟩
  by_cases hq : x = x' ∧ y = y' ∧ z = z'
  · obtain ⟨rfl, rfl, rfl⟩ := hq
    have heH := headEq x y z x y z
    have heI := headEq x y z x y z
    go_enter Try.func5, Try.ntmps5
    go_wp2_with fail
    have gb := (gbox_ahead w 23 b p s n f (.cells #[.int .i64 x, .int .i64 y, .int .i64 z] 25)).below (below_one _ (.cells #[.int .i64 x, .int .i64 y, .int .i64 z] 25)) (Nat.le_refl _)
    have hx := (hbox_two w (.cells #[.int .i64 b, .int .i64 p, .int .i64 s, .int .i64 n, .int .i64 f] 23) 25 x y z).below (below_one _ (.cells #[.int .i64 x, .int .i64 y, .int .i64 z] 25)) (Nat.le_refl _)
    have hy := hbox_three w (.cells #[.int .i64 b, .int .i64 p, .int .i64 s, .int .i64 n, .int .i64 f] 23) (.cells #[.int .i64 x, .int .i64 y, .int .i64 z] 25) 25 x y z
    have q1 := below_three w (.cells #[.int .i64 b, .int .i64 p, .int .i64 s, .int .i64 n, .int .i64 f] 23) (.cells #[.int .i64 x, .int .i64 y, .int .i64 z] 25) (.cells #[.int .i64 x, .int .i64 y, .int .i64 z] 25)
    generalize ((w.alloc (.cells #[.int .i64 b, .int .i64 p, .int .i64 s, .int .i64 n, .int .i64 f] 23)).alloc (.cells #[.int .i64 x, .int .i64 y, .int .i64 z] 25)).alloc (.cells #[.int .i64 x, .int .i64 y, .int .i64 z] 25) = w0 at *
    generalize hgg : w.heap.size = g at gb hx hy
    refine (hBytes_yes G x y z _ hh).mono ?_
    rintro e w1 ⟨g1, _, rfl, own, qq⟩
    obtain ⟨a1, c1, he, r8⟩ := row_of_owns own
    cases he
    clear own
    replace gb := gb.below qq (Nat.le_refl _)
    replace hx := hx.below qq (Nat.le_refl _)
    replace hy := hy.below qq (Nat.le_refl _)
    replace q1 := btrans q1 qq
    clear qq
    have gb_ := gb
    obtain ⟨_, c0, c1, c2, c3, c4⟩ := gb_
    have hx_ := hx
    obtain ⟨_, hxd0, hxd1, hxd2⟩ := hx_
    have hy_ := hy
    obtain ⟨_, hyd0, hyd1, hyd2⟩ := hy_
    go_wp2_with fail
    clear c0 c1 c2 c3 c4
    clear hxd0 hxd1 hxd2
    clear hyd0 hyd1 hyd2
    refine (hBytes_yes G x y z _ hh).mono ?_
    rintro e w2 ⟨g2, _, rfl, own, qq⟩
    obtain ⟨a2, c2, he, r9⟩ := row_of_owns own
    cases he
    clear own
    replace gb := gb.below qq (Nat.le_refl _)
    replace hx := hx.below qq (Nat.le_refl _)
    replace hy := hy.below qq (Nat.le_refl _)
    replace r8 := r8.below qq (Nat.le_refl _)
    replace q1 := btrans q1 qq
    clear qq
    have gb_ := gb
    obtain ⟨_, c0, c1, c2, c3, c4⟩ := gb_
    have hx_ := hx
    obtain ⟨_, hxd0, hxd1, hxd2⟩ := hx_
    have hy_ := hy
    obtain ⟨_, hyd0, hyd1, hyd2⟩ := hy_
    go_wp2_with fail
    clear c0 c1 c2 c3 c4
    clear hxd0 hxd1 hxd2
    clear hyd0 hyd1 hyd2
    refine (hParse_page G _ _ x y z _ hh r8).mono ?_
    rintro e w3 ⟨rfl, qq⟩
    replace gb := gb.below qq (Nat.le_refl _)
    replace hx := hx.below qq (Nat.le_refl _)
    replace hy := hy.below qq (Nat.le_refl _)
    replace r8 := r8.below qq (Nat.le_refl _)
    replace r9 := r9.below qq (Nat.le_refl _)
    replace q1 := btrans q1 qq
    clear qq
    have qq := below_one w3 (.cells #[.int .i64 x, .int .i64 y, .int .i64 z] 25)
    have hp := hbox_new w3 25 x y z
    replace gb := gb.below qq (Nat.le_refl _)
    replace hx := hx.below qq (Nat.le_refl _)
    replace hy := hy.below qq (Nat.le_refl _)
    replace r8 := r8.below qq (Nat.le_refl _)
    replace r9 := r9.below qq (Nat.le_refl _)
    replace q1 := btrans q1 qq
    clear qq
    have gb_ := gb
    obtain ⟨_, c0, c1, c2, c3, c4⟩ := gb_
    have hx_ := hx
    obtain ⟨_, hxd0, hxd1, hxd2⟩ := hx_
    have hy_ := hy
    obtain ⟨_, hyd0, hyd1, hyd2⟩ := hy_
    have hp_ := hp
    obtain ⟨_, hpd0, hpd1, hpd2⟩ := hp_
    go_upto_region 6 with fail
    clear c0 c1 c2 c3 c4
    clear hxd0 hxd1 hxd2
    clear hyd0 hyd1 hyd2
    clear hpd0 hpd1 hpd2
    generalize w3.alloc (.cells #[.int .i64 x, .int .i64 y, .int .i64 z] 25) = w4 at *
    generalize w3.heap.size = hpB at *
    refine held_begin (by kernel_rfl) ?_
    refine held_call (i := 0) (fuel := 21) (by kernel_rfl) rfl (by rfl) (fun K hK => ?_)
    go_simp
    have qd := Since.drew w4
    replace gb := gb.below qd (Nat.le_refl _)
    replace hx := hx.below qd (Nat.le_refl _)
    replace hy := hy.below qd (Nat.le_refl _)
    replace r8 := r8.below qd (Nat.le_refl _)
    replace r9 := r9.below qd (Nat.le_refl _)
    replace hp := hp.below qd (Nat.le_refl _)
    replace q1 := btrans q1 qd
    clear qd
    refine (awake9_any _).mono ?_
    rintro e w5 ⟨rfl, qq0⟩
    refine hK _ _ (Since.trans (Since.drew _) qq0) ?_
    have qq : Since _ _ := qq0
    clear hK K qq0
    replace gb := gb.below qq (Nat.le_refl _)
    replace hx := hx.below qq (Nat.le_refl _)
    replace hy := hy.below qq (Nat.le_refl _)
    replace r8 := r8.below qq (Nat.le_refl _)
    replace r9 := r9.below qq (Nat.le_refl _)
    replace hp := hp.below qq (Nat.le_refl _)
    replace q1 := btrans q1 qq
    clear qq
    refine held_reads (rs := [1, 2, 3, 4, 5, 6, 7, 8, 9, 10, 11, 12, 13, 14, 15, 16, 17, 18, 19, 20, 21]) (fuel := 0) (by kernel_rfl) (fun c d v a w h => by cases d <;> exact h) (by kernel_rfl) (Since.refl _) (fun K hK => ?_)
    go_simp
    refine calm_move _ rfl (by rfl) rfl ?_
    go_simp
    refine calm_move _ rfl (by rfl) rfl ?_
    go_simp
    refine calm_do (.bool true) rfl (by rfl) (fun w' hw' => ?_) ?_
    · go_simp
    go_simp
    refine calm_do (.bool true) rfl (by rfl) (fun w' hw' => ?_) ?_
    · go_simp
    go_simp
    refine calm_move _ rfl (by rfl) rfl ?_
    go_simp
    refine calm_do (.agg #[.int .i64 x, .int .i64 y, .int .i64 z]) rfl (by rfl) (fun w' hw' => ?_) ?_
    · have hb' := hp.below hw' (Nat.le_refl _)
      obtain ⟨_, d0, d1, d2⟩ := hb'
      go_simp
    go_simp
    refine calm_do (.agg #[.int .i64 x, .int .i64 y, .int .i64 z]) rfl (by rfl) (fun w' hw' => ?_) ?_
    · have hb' := hx.below hw' (Nat.le_refl _)
      obtain ⟨_, d0, d1, d2⟩ := hb'
      go_simp
    go_simp
    refine calm_do (.bool true) rfl (by rfl) (fun w' hw' => ?_) ?_
    · have he := heH w'
      go_simp
    go_simp
    refine calm_do (.bool true) rfl (by rfl) (fun w' hw' => ?_) ?_
    · go_simp
    go_simp
    refine calm_move _ rfl (by rfl) rfl ?_
    go_simp
    refine calm_move _ rfl (by rfl) rfl ?_
    go_simp
    refine calm_do (.string (strOfNums (pageOf R x y z))) rfl (by rfl) (fun w' hw' => ?_) ?_
    · have hcc := conv_row Try.underlying30 Try.underlying5 Try.underlying9 (r8.below hw' (Nat.le_refl _))
      go_simp
    go_simp
    refine calm_move _ rfl (by rfl) rfl ?_
    go_simp
    refine calm_do (.string (strOfNums (pageOf R x y z))) rfl (by rfl) (fun w' hw' => ?_) ?_
    · have hcc := conv_row Try.underlying30 Try.underlying5 Try.underlying9 (r9.below hw' (Nat.le_refl _))
      go_simp
    go_simp
    refine calm_do (.bool true) rfl (by rfl) (fun w' hw' => ?_) ?_
    · go_simp
    go_simp
    refine calm_do (.agg #[.int .i64 x, .int .i64 y, .int .i64 z]) rfl (by rfl) (fun w' hw' => ?_) ?_
    · have hb' := hx.below hw' (Nat.le_refl _)
      obtain ⟨_, d0, d1, d2⟩ := hb'
      go_simp
    go_simp
    refine calm_do (.agg #[.int .i64 x, .int .i64 y, .int .i64 z]) rfl (by rfl) (fun w' hw' => ?_) ?_
    · have hb' := hy.below hw' (Nat.le_refl _)
      obtain ⟨_, d0, d1, d2⟩ := hb'
      go_simp
    go_simp
    refine calm_do (.bool true) rfl (by rfl) (fun w' hw' => ?_) ?_
    · have he := heI w'
      go_simp
    go_simp
    refine calm_do (.bool true) rfl (by rfl) (fun w' hw' => ?_) ?_
    · go_simp
    go_simp
    refine calm_do (.bool true) rfl (by rfl) (fun w' hw' => ?_) ?_
    · go_simp
    go_simp
    refine calm_assign _ rfl (by rfl) rfl ?_
    go_simp
    refine calm_nil (hK.out _ ?_)
    clear hK K
    refine wpAnyH_done (by kernel_rfl) ?_ _
    go_wp2
    go_ret
    exact ⟨rfl, q1⟩
  · have hne : ((strOfNums (pageOf R x y z)).toList == (strOfNums (pageOf R x' y' z')).toList) = false := by
      rw [str_beq (isB_page _ _ _ _) (isB_page _ _ _ _)]
      exact decide_eq_false (fun h => hq (page_inj G.C32 hh hi h))
    have hne2 : (x == x' && (y == y' && z == z')) = false := by
      cases h1 : (x == x' && (y == y' && z == z'))
      · rfl
      · simp only [Bool.and_eq_true, beq_iff_eq] at h1; exact absurd h1 hq
    have heH := headEq x y z x y z
    have heI := headEq x y z x' y' z'
    rw [hne2] at heI
    clear hq hne2
    go_enter Try.func5, Try.ntmps5
    go_wp2_with fail
    have gb := (gbox_ahead w 23 b p s n f (.cells #[.int .i64 x, .int .i64 y, .int .i64 z] 25)).below (below_one _ (.cells #[.int .i64 x', .int .i64 y', .int .i64 z'] 25)) (Nat.le_refl _)
    have hx := (hbox_two w (.cells #[.int .i64 b, .int .i64 p, .int .i64 s, .int .i64 n, .int .i64 f] 23) 25 x y z).below (below_one _ (.cells #[.int .i64 x', .int .i64 y', .int .i64 z'] 25)) (Nat.le_refl _)
    have hy := hbox_three w (.cells #[.int .i64 b, .int .i64 p, .int .i64 s, .int .i64 n, .int .i64 f] 23) (.cells #[.int .i64 x, .int .i64 y, .int .i64 z] 25) 25 x' y' z'
    have q1 := below_three w (.cells #[.int .i64 b, .int .i64 p, .int .i64 s, .int .i64 n, .int .i64 f] 23) (.cells #[.int .i64 x, .int .i64 y, .int .i64 z] 25) (.cells #[.int .i64 x', .int .i64 y', .int .i64 z'] 25)
    generalize ((w.alloc (.cells #[.int .i64 b, .int .i64 p, .int .i64 s, .int .i64 n, .int .i64 f] 23)).alloc (.cells #[.int .i64 x, .int .i64 y, .int .i64 z] 25)).alloc (.cells #[.int .i64 x', .int .i64 y', .int .i64 z'] 25) = w0 at *
    generalize hgg : w.heap.size = g at gb hx hy
    refine (hBytes_yes G x y z _ hh).mono ?_
    rintro e w1 ⟨g1, _, rfl, own, qq⟩
    obtain ⟨a1, c1, he, r8⟩ := row_of_owns own
    cases he
    clear own
    replace gb := gb.below qq (Nat.le_refl _)
    replace hx := hx.below qq (Nat.le_refl _)
    replace hy := hy.below qq (Nat.le_refl _)
    replace q1 := btrans q1 qq
    clear qq
    have gb_ := gb
    obtain ⟨_, c0, c1, c2, c3, c4⟩ := gb_
    have hx_ := hx
    obtain ⟨_, hxd0, hxd1, hxd2⟩ := hx_
    have hy_ := hy
    obtain ⟨_, hyd0, hyd1, hyd2⟩ := hy_
    go_wp2_with fail
    clear c0 c1 c2 c3 c4
    clear hxd0 hxd1 hxd2
    clear hyd0 hyd1 hyd2
    refine (hBytes_yes G x' y' z' _ hi).mono ?_
    rintro e w2 ⟨g2, _, rfl, own, qq⟩
    obtain ⟨a2, c2, he, r9⟩ := row_of_owns own
    cases he
    clear own
    replace gb := gb.below qq (Nat.le_refl _)
    replace hx := hx.below qq (Nat.le_refl _)
    replace hy := hy.below qq (Nat.le_refl _)
    replace r8 := r8.below qq (Nat.le_refl _)
    replace q1 := btrans q1 qq
    clear qq
    have gb_ := gb
    obtain ⟨_, c0, c1, c2, c3, c4⟩ := gb_
    have hx_ := hx
    obtain ⟨_, hxd0, hxd1, hxd2⟩ := hx_
    have hy_ := hy
    obtain ⟨_, hyd0, hyd1, hyd2⟩ := hy_
    go_wp2_with fail
    clear c0 c1 c2 c3 c4
    clear hxd0 hxd1 hxd2
    clear hyd0 hyd1 hyd2
    refine (hParse_page G _ _ x y z _ hh r8).mono ?_
    rintro e w3 ⟨rfl, qq⟩
    replace gb := gb.below qq (Nat.le_refl _)
    replace hx := hx.below qq (Nat.le_refl _)
    replace hy := hy.below qq (Nat.le_refl _)
    replace r8 := r8.below qq (Nat.le_refl _)
    replace r9 := r9.below qq (Nat.le_refl _)
    replace q1 := btrans q1 qq
    clear qq
    have qq := below_one w3 (.cells #[.int .i64 x, .int .i64 y, .int .i64 z] 25)
    have hp := hbox_new w3 25 x y z
    replace gb := gb.below qq (Nat.le_refl _)
    replace hx := hx.below qq (Nat.le_refl _)
    replace hy := hy.below qq (Nat.le_refl _)
    replace r8 := r8.below qq (Nat.le_refl _)
    replace r9 := r9.below qq (Nat.le_refl _)
    replace q1 := btrans q1 qq
    clear qq
    have gb_ := gb
    obtain ⟨_, c0, c1, c2, c3, c4⟩ := gb_
    have hx_ := hx
    obtain ⟨_, hxd0, hxd1, hxd2⟩ := hx_
    have hy_ := hy
    obtain ⟨_, hyd0, hyd1, hyd2⟩ := hy_
    have hp_ := hp
    obtain ⟨_, hpd0, hpd1, hpd2⟩ := hp_
    go_upto_region 6 with fail
    clear c0 c1 c2 c3 c4
    clear hxd0 hxd1 hxd2
    clear hyd0 hyd1 hyd2
    clear hpd0 hpd1 hpd2
    generalize w3.alloc (.cells #[.int .i64 x, .int .i64 y, .int .i64 z] 25) = w4 at *
    generalize w3.heap.size = hpB at *
    refine held_begin (by kernel_rfl) ?_
    refine held_call (i := 0) (fuel := 21) (by kernel_rfl) rfl (by rfl) (fun K hK => ?_)
    go_simp
    have qd := Since.drew w4
    replace gb := gb.below qd (Nat.le_refl _)
    replace hx := hx.below qd (Nat.le_refl _)
    replace hy := hy.below qd (Nat.le_refl _)
    replace r8 := r8.below qd (Nat.le_refl _)
    replace r9 := r9.below qd (Nat.le_refl _)
    replace hp := hp.below qd (Nat.le_refl _)
    replace q1 := btrans q1 qd
    clear qd
    refine (awake9_any _).mono ?_
    rintro e w5 ⟨rfl, qq0⟩
    refine hK _ _ (Since.trans (Since.drew _) qq0) ?_
    have qq : Since _ _ := qq0
    clear hK K qq0
    replace gb := gb.below qq (Nat.le_refl _)
    replace hx := hx.below qq (Nat.le_refl _)
    replace hy := hy.below qq (Nat.le_refl _)
    replace r8 := r8.below qq (Nat.le_refl _)
    replace r9 := r9.below qq (Nat.le_refl _)
    replace hp := hp.below qq (Nat.le_refl _)
    replace q1 := btrans q1 qq
    clear qq
    refine held_reads (rs := [1, 2, 3, 4, 5, 6, 7, 8, 9, 10, 11, 12, 13, 14, 15, 16, 17, 18, 19, 20, 21]) (fuel := 0) (by kernel_rfl) (fun c d v a w h => by cases d <;> exact h) (by kernel_rfl) (Since.refl _) (fun K hK => ?_)
    go_simp
    refine calm_move _ rfl (by rfl) rfl ?_
    go_simp
    refine calm_move _ rfl (by rfl) rfl ?_
    go_simp
    refine calm_do (.bool true) rfl (by rfl) (fun w' hw' => ?_) ?_
    · go_simp
    go_simp
    refine calm_do (.bool true) rfl (by rfl) (fun w' hw' => ?_) ?_
    · go_simp
    go_simp
    refine calm_move _ rfl (by rfl) rfl ?_
    go_simp
    refine calm_do (.agg #[.int .i64 x, .int .i64 y, .int .i64 z]) rfl (by rfl) (fun w' hw' => ?_) ?_
    · have hb' := hp.below hw' (Nat.le_refl _)
      obtain ⟨_, d0, d1, d2⟩ := hb'
      go_simp
    go_simp
    refine calm_do (.agg #[.int .i64 x, .int .i64 y, .int .i64 z]) rfl (by rfl) (fun w' hw' => ?_) ?_
    · have hb' := hx.below hw' (Nat.le_refl _)
      obtain ⟨_, d0, d1, d2⟩ := hb'
      go_simp
    go_simp
    refine calm_do (.bool true) rfl (by rfl) (fun w' hw' => ?_) ?_
    · have he := heH w'
      go_simp
    go_simp
    refine calm_do (.bool true) rfl (by rfl) (fun w' hw' => ?_) ?_
    · go_simp
    go_simp
    refine calm_move _ rfl (by rfl) rfl ?_
    go_simp
    refine calm_move _ rfl (by rfl) rfl ?_
    go_simp
    refine calm_do (.string (strOfNums (pageOf R x y z))) rfl (by rfl) (fun w' hw' => ?_) ?_
    · have hcc := conv_row Try.underlying30 Try.underlying5 Try.underlying9 (r8.below hw' (Nat.le_refl _))
      go_simp
    go_simp
    refine calm_move _ rfl (by rfl) rfl ?_
    go_simp
    refine calm_do (.string (strOfNums (pageOf R x' y' z'))) rfl (by rfl) (fun w' hw' => ?_) ?_
    · have hcc := conv_row Try.underlying30 Try.underlying5 Try.underlying9 (r9.below hw' (Nat.le_refl _))
      go_simp
    go_simp
    refine calm_do (.bool false) rfl (by rfl) (fun w' hw' => ?_) ?_
    · go_simp
    go_simp
    refine calm_do (.agg #[.int .i64 x, .int .i64 y, .int .i64 z]) rfl (by rfl) (fun w' hw' => ?_) ?_
    · have hb' := hx.below hw' (Nat.le_refl _)
      obtain ⟨_, d0, d1, d2⟩ := hb'
      go_simp
    go_simp
    refine calm_do (.agg #[.int .i64 x', .int .i64 y', .int .i64 z']) rfl (by rfl) (fun w' hw' => ?_) ?_
    · have hb' := hy.below hw' (Nat.le_refl _)
      obtain ⟨_, d0, d1, d2⟩ := hb'
      go_simp
    go_simp
    refine calm_do (.bool false) rfl (by rfl) (fun w' hw' => ?_) ?_
    · have he := heI w'
      go_simp
    go_simp
    refine calm_do (.bool true) rfl (by rfl) (fun w' hw' => ?_) ?_
    · go_simp
    go_simp
    refine calm_do (.bool true) rfl (by rfl) (fun w' hw' => ?_) ?_
    · go_simp
    go_simp
    refine calm_assign _ rfl (by rfl) rfl ?_
    go_simp
    refine calm_nil (hK.out _ ?_)
    clear hK K
    refine wpAnyH_done (by kernel_rfl) ?_ _
    go_wp2
    go_ret
    exact ⟨rfl, q1⟩

end Go.Proofs.Ytefpmidjedfjmaa
