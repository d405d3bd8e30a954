/-
  The document's answer of layer 9 (casemateref09): May. (Written by tools/gen/head_ref2.py.)
-/
import Derived.Test.YtefpmidjedfjmaaHeadRef
namespace Go.Proofs.Ytefpmidjedfjmaa
open Go.RowKit
set_option linter.unusedVariables false
set_option maxRecDepth 8192

theorem gbox_ahead (w : World) (T : TypeId) (b p s n f : Int) (o : Obj) : GBox ((w.alloc (.cells #[.int .i64 b, .int .i64 p, .int .i64 s, .int .i64 n, .int .i64 f] T)).alloc o) w.heap.size b p s n f :=
  (gbox_new w T b p s n f).below (below_one _ o) (Nat.le_refl _)
set_option maxHeartbeats 3200000 in
theorem refMay9_any {b p : Int} {s n : Nat} {f : Int} {R C : Nat} (G : GMay b p s n f R C) (x y z : Int) (w : World) : Calls Try.prog 15 #[.agg #[.int .i64 b, .int .i64 p, .int .i64 ((s : Nat)), .int .i64 ((n : Nat)), .int .i64 f], .agg #[.int .i64 x, .int .i64 y, .int .i64 z]] w fun e w' => e = .returned (.bool (mayH C x y z)) ∧ Below w.heap.size w w' := by
  have hcap := refCap9_any G
  clear G
  by_cases h0 : 0 ≤ x
  case neg =>
    have HM : Hid (mayH C x y z = false) := mayH_no (by omega)
    go_enter Try.func15, Try.ntmps15
    go_wp2_with fail
    have gb := gbox_ahead w 23 b p s n f (.cells #[.int .i64 x, .int .i64 y, .int .i64 z] 25)
    have hx := hbox_two w (.cells #[.int .i64 b, .int .i64 p, .int .i64 s, .int .i64 n, .int .i64 f] 23) 25 x y z
    have q1 := below_two w (.cells #[.int .i64 b, .int .i64 p, .int .i64 s, .int .i64 n, .int .i64 f] 23) (.cells #[.int .i64 x, .int .i64 y, .int .i64 z] 25)
    generalize (w.alloc (.cells #[.int .i64 b, .int .i64 p, .int .i64 s, .int .i64 n, .int .i64 f] 23)).alloc (.cells #[.int .i64 x, .int .i64 y, .int .i64 z] 25) = w0 at *
    generalize hgg : w.heap.size = g at gb hx
    go_wp2_with fail
    refine held_begin (by kernel_rfl) ?_
    refine held_reads (rs := [0, 1, 2, 3, 4, 5, 6, 7, 8, 9, 10, 11, 12, 13, 14, 15, 16, 17, 18, 19, 20, 21, 22, 23, 24, 25, 26, 27, 28, 29, 30]) (fuel := 0) (by kernel_rfl) (fun c d v a w h => by cases d <;> exact h) (by kernel_rfl) (Since.drew _) (fun K hK => ?_)
    refine calm_do (.pointer (some ⟨g + 1, 0, none⟩)) rfl (by rfl) (fun w' hw' => ?_) ?_
    · skip
      go_simp
    go_simp
    refine calm_do (.int .i64 x) rfl (by rfl) (fun w' hw' => ?_) ?_
    · have hx' := hx.below hw' (Nat.le_refl _)
      obtain ⟨_, d0, d1, d2⟩ := hx'
      go_simp
    go_simp
    refine calm_do (.bool false) rfl (by rfl) (fun w' hw' => ?_) ?_
    · skip
      go_simp
      all_goals (first | omega | (simp; omega))
    go_simp
    refine calm_move _ rfl (by rfl) rfl ?_
    go_simp
    refine calm_skip rfl (by rfl) ?_
    go_simp
    refine calm_skip rfl (by rfl) ?_
    go_simp
    refine calm_skip rfl (by rfl) ?_
    go_simp
    refine calm_do (.bool false) rfl (by rfl) (fun w' hw' => ?_) ?_
    · skip
      go_simp
    go_simp
    refine calm_move _ rfl (by rfl) rfl ?_
    go_simp
    refine calm_skip rfl (by rfl) ?_
    go_simp
    refine calm_skip rfl (by rfl) ?_
    go_simp
    refine calm_skip rfl (by rfl) ?_
    go_simp
    refine calm_do (.bool false) rfl (by rfl) (fun w' hw' => ?_) ?_
    · skip
      go_simp
    go_simp
    refine calm_move _ rfl (by rfl) rfl ?_
    go_simp
    refine calm_skip rfl (by rfl) ?_
    go_simp
    refine calm_skip rfl (by rfl) ?_
    go_simp
    refine calm_skip rfl (by rfl) ?_
    go_simp
    refine calm_skip rfl (by rfl) ?_
    go_simp
    refine calm_skip rfl (by rfl) ?_
    go_simp
    refine calm_do (.bool false) rfl (by rfl) (fun w' hw' => ?_) ?_
    · skip
      go_simp
    go_simp
    refine calm_move _ rfl (by rfl) rfl ?_
    go_simp
    refine calm_skip rfl (by rfl) ?_
    go_simp
    refine calm_skip rfl (by rfl) ?_
    go_simp
    refine calm_skip rfl (by rfl) ?_
    go_simp
    refine calm_do (.bool false) rfl (by rfl) (fun w' hw' => ?_) ?_
    · skip
      go_simp
    go_simp
    refine calm_move _ rfl (by rfl) rfl ?_
    go_simp
    refine calm_skip rfl (by rfl) ?_
    go_simp
    refine calm_skip rfl (by rfl) ?_
    go_simp
    refine calm_skip rfl (by rfl) ?_
    go_simp
    refine calm_do (.bool false) rfl (by rfl) (fun w' hw' => ?_) ?_
    · skip
      go_simp
    go_simp
    refine calm_assign _ rfl (by rfl) rfl ?_
    go_simp
    refine calm_nil (hK.out _ ?_)
    clear hK K
    refine wpAnyH_done (by kernel_rfl) ?_ _
    go_wp2
    go_ret
    exact ⟨ret_bool HM.out.symm, btrans q1 (Since.drew _)⟩
  by_cases h1 : x < 64
  case neg =>
    have HM : Hid (mayH C x y z = false) := mayH_no (by omega)
    go_enter Try.func15, Try.ntmps15
    go_wp2_with fail
    have gb := gbox_ahead w 23 b p s n f (.cells #[.int .i64 x, .int .i64 y, .int .i64 z] 25)
    have hx := hbox_two w (.cells #[.int .i64 b, .int .i64 p, .int .i64 s, .int .i64 n, .int .i64 f] 23) 25 x y z
    have q1 := below_two w (.cells #[.int .i64 b, .int .i64 p, .int .i64 s, .int .i64 n, .int .i64 f] 23) (.cells #[.int .i64 x, .int .i64 y, .int .i64 z] 25)
    generalize (w.alloc (.cells #[.int .i64 b, .int .i64 p, .int .i64 s, .int .i64 n, .int .i64 f] 23)).alloc (.cells #[.int .i64 x, .int .i64 y, .int .i64 z] 25) = w0 at *
    generalize hgg : w.heap.size = g at gb hx
    go_wp2_with fail
    refine held_begin (by kernel_rfl) ?_
    refine held_reads (rs := [0, 1, 2, 3, 4, 5, 6, 7, 8, 9, 10, 11, 12, 13, 14, 15, 16, 17, 18, 19, 20, 21, 22, 23, 24, 25, 26, 27, 28, 29, 30]) (fuel := 0) (by kernel_rfl) (fun c d v a w h => by cases d <;> exact h) (by kernel_rfl) (Since.drew _) (fun K hK => ?_)
    refine calm_do (.pointer (some ⟨g + 1, 0, none⟩)) rfl (by rfl) (fun w' hw' => ?_) ?_
    · skip
      go_simp
    go_simp
    refine calm_do (.int .i64 x) rfl (by rfl) (fun w' hw' => ?_) ?_
    · have hx' := hx.below hw' (Nat.le_refl _)
      obtain ⟨_, d0, d1, d2⟩ := hx'
      go_simp
    go_simp
    refine calm_do (.bool true) rfl (by rfl) (fun w' hw' => ?_) ?_
    · skip
      go_simp
      all_goals (first | omega | (simp; omega))
    go_simp
    refine calm_move _ rfl (by rfl) rfl ?_
    go_simp
    refine calm_do (.pointer (some ⟨g + 1, 0, none⟩)) rfl (by rfl) (fun w' hw' => ?_) ?_
    · skip
      go_simp
    go_simp
    refine calm_do (.int .i64 x) rfl (by rfl) (fun w' hw' => ?_) ?_
    · have hx' := hx.below hw' (Nat.le_refl _)
      obtain ⟨_, d0, d1, d2⟩ := hx'
      go_simp
    go_simp
    refine calm_do (.bool false) rfl (by rfl) (fun w' hw' => ?_) ?_
    · skip
      go_simp
      all_goals (first | omega | (simp; omega))
    go_simp
    refine calm_do (.bool false) rfl (by rfl) (fun w' hw' => ?_) ?_
    · skip
      go_simp
    go_simp
    refine calm_move _ rfl (by rfl) rfl ?_
    go_simp
    refine calm_skip rfl (by rfl) ?_
    go_simp
    refine calm_skip rfl (by rfl) ?_
    go_simp
    refine calm_skip rfl (by rfl) ?_
    go_simp
    refine calm_do (.bool false) rfl (by rfl) (fun w' hw' => ?_) ?_
    · skip
      go_simp
    go_simp
    refine calm_move _ rfl (by rfl) rfl ?_
    go_simp
    refine calm_skip rfl (by rfl) ?_
    go_simp
    refine calm_skip rfl (by rfl) ?_
    go_simp
    refine calm_skip rfl (by rfl) ?_
    go_simp
    refine calm_skip rfl (by rfl) ?_
    go_simp
    refine calm_skip rfl (by rfl) ?_
    go_simp
    refine calm_do (.bool false) rfl (by rfl) (fun w' hw' => ?_) ?_
    · skip
      go_simp
    go_simp
    refine calm_move _ rfl (by rfl) rfl ?_
    go_simp
    refine calm_skip rfl (by rfl) ?_
    go_simp
    refine calm_skip rfl (by rfl) ?_
    go_simp
    refine calm_skip rfl (by rfl) ?_
    go_simp
    refine calm_do (.bool false) rfl (by rfl) (fun w' hw' => ?_) ?_
    · skip
      go_simp
    go_simp
    refine calm_move _ rfl (by rfl) rfl ?_
    go_simp
    refine calm_skip rfl (by rfl) ?_
    go_simp
    refine calm_skip rfl (by rfl) ?_
    go_simp
    refine calm_skip rfl (by rfl) ?_
    go_simp
    refine calm_do (.bool false) rfl (by rfl) (fun w' hw' => ?_) ?_
    · skip
      go_simp
    go_simp
    refine calm_assign _ rfl (by rfl) rfl ?_
    go_simp
    refine calm_nil (hK.out _ ?_)
    clear hK K
    refine wpAnyH_done (by kernel_rfl) ?_ _
    go_wp2
    go_ret
    exact ⟨ret_bool HM.out.symm, btrans q1 (Since.drew _)⟩
  by_cases h2 : 0 ≤ y
  case neg =>
    have HM : Hid (mayH C x y z = false) := mayH_no (by omega)
    go_enter Try.func15, Try.ntmps15
    go_wp2_with fail
    have gb := gbox_ahead w 23 b p s n f (.cells #[.int .i64 x, .int .i64 y, .int .i64 z] 25)
    have hx := hbox_two w (.cells #[.int .i64 b, .int .i64 p, .int .i64 s, .int .i64 n, .int .i64 f] 23) 25 x y z
    have q1 := below_two w (.cells #[.int .i64 b, .int .i64 p, .int .i64 s, .int .i64 n, .int .i64 f] 23) (.cells #[.int .i64 x, .int .i64 y, .int .i64 z] 25)
    generalize (w.alloc (.cells #[.int .i64 b, .int .i64 p, .int .i64 s, .int .i64 n, .int .i64 f] 23)).alloc (.cells #[.int .i64 x, .int .i64 y, .int .i64 z] 25) = w0 at *
    generalize hgg : w.heap.size = g at gb hx
    go_wp2_with fail
    refine held_begin (by kernel_rfl) ?_
    refine held_reads (rs := [0, 1, 2, 3, 4, 5, 6, 7, 8, 9, 10, 11, 12, 13, 14, 15, 16, 17, 18, 19, 20, 21, 22, 23, 24, 25, 26, 27, 28, 29, 30]) (fuel := 0) (by kernel_rfl) (fun c d v a w h => by cases d <;> exact h) (by kernel_rfl) (Since.drew _) (fun K hK => ?_)
    refine calm_do (.pointer (some ⟨g + 1, 0, none⟩)) rfl (by rfl) (fun w' hw' => ?_) ?_
    · skip
      go_simp
    go_simp
    refine calm_do (.int .i64 x) rfl (by rfl) (fun w' hw' => ?_) ?_
    · have hx' := hx.below hw' (Nat.le_refl _)
      obtain ⟨_, d0, d1, d2⟩ := hx'
      go_simp
    go_simp
    refine calm_do (.bool true) rfl (by rfl) (fun w' hw' => ?_) ?_
    · skip
      go_simp
      all_goals (first | omega | (simp; omega))
    go_simp
    refine calm_move _ rfl (by rfl) rfl ?_
    go_simp
    refine calm_do (.pointer (some ⟨g + 1, 0, none⟩)) rfl (by rfl) (fun w' hw' => ?_) ?_
    · skip
      go_simp
    go_simp
    refine calm_do (.int .i64 x) rfl (by rfl) (fun w' hw' => ?_) ?_
    · have hx' := hx.below hw' (Nat.le_refl _)
      obtain ⟨_, d0, d1, d2⟩ := hx'
      go_simp
    go_simp
    refine calm_do (.bool true) rfl (by rfl) (fun w' hw' => ?_) ?_
    · skip
      go_simp
      all_goals (first | omega | (simp; omega))
    go_simp
    refine calm_do (.bool true) rfl (by rfl) (fun w' hw' => ?_) ?_
    · skip
      go_simp
    go_simp
    refine calm_move _ rfl (by rfl) rfl ?_
    go_simp
    refine calm_do (.pointer (some ⟨g + 1, 1, none⟩)) rfl (by rfl) (fun w' hw' => ?_) ?_
    · skip
      go_simp
    go_simp
    refine calm_do (.int .i64 y) rfl (by rfl) (fun w' hw' => ?_) ?_
    · have hx' := hx.below hw' (Nat.le_refl _)
      obtain ⟨_, d0, d1, d2⟩ := hx'
      go_simp
    go_simp
    refine calm_do (.bool false) rfl (by rfl) (fun w' hw' => ?_) ?_
    · skip
      go_simp
      all_goals (first | omega | (simp; omega))
    go_simp
    refine calm_do (.bool false) rfl (by rfl) (fun w' hw' => ?_) ?_
    · skip
      go_simp
    go_simp
    refine calm_move _ rfl (by rfl) rfl ?_
    go_simp
    refine calm_skip rfl (by rfl) ?_
    go_simp
    refine calm_skip rfl (by rfl) ?_
    go_simp
    refine calm_skip rfl (by rfl) ?_
    go_simp
    refine calm_skip rfl (by rfl) ?_
    go_simp
    refine calm_skip rfl (by rfl) ?_
    go_simp
    refine calm_do (.bool false) rfl (by rfl) (fun w' hw' => ?_) ?_
    · skip
      go_simp
    go_simp
    refine calm_move _ rfl (by rfl) rfl ?_
    go_simp
    refine calm_skip rfl (by rfl) ?_
    go_simp
    refine calm_skip rfl (by rfl) ?_
    go_simp
    refine calm_skip rfl (by rfl) ?_
    go_simp
    refine calm_do (.bool false) rfl (by rfl) (fun w' hw' => ?_) ?_
    · skip
      go_simp
    go_simp
    refine calm_move _ rfl (by rfl) rfl ?_
    go_simp
    refine calm_skip rfl (by rfl) ?_
    go_simp
    refine calm_skip rfl (by rfl) ?_
    go_simp
    refine calm_skip rfl (by rfl) ?_
    go_simp
    refine calm_do (.bool false) rfl (by rfl) (fun w' hw' => ?_) ?_
    · skip
      go_simp
    go_simp
    refine calm_assign _ rfl (by rfl) rfl ?_
    go_simp
    refine calm_nil (hK.out _ ?_)
    clear hK K
    refine wpAnyH_done (by kernel_rfl) ?_ _
    go_wp2
    go_ret
    exact ⟨ret_bool HM.out.symm, btrans q1 (Since.drew _)⟩
  by_cases h3 : y ≤ (C : Int)
  case neg =>
    have HM : Hid (mayH C x y z = false) := mayH_no (by omega)
    go_enter Try.func15, Try.ntmps15
    go_wp2_with fail
    have gb := gbox_ahead w 23 b p s n f (.cells #[.int .i64 x, .int .i64 y, .int .i64 z] 25)
    have hx := hbox_two w (.cells #[.int .i64 b, .int .i64 p, .int .i64 s, .int .i64 n, .int .i64 f] 23) 25 x y z
    have q1 := below_two w (.cells #[.int .i64 b, .int .i64 p, .int .i64 s, .int .i64 n, .int .i64 f] 23) (.cells #[.int .i64 x, .int .i64 y, .int .i64 z] 25)
    generalize (w.alloc (.cells #[.int .i64 b, .int .i64 p, .int .i64 s, .int .i64 n, .int .i64 f] 23)).alloc (.cells #[.int .i64 x, .int .i64 y, .int .i64 z] 25) = w0 at *
    generalize hgg : w.heap.size = g at gb hx
    go_wp2_with fail
    refine held_begin (by kernel_rfl) ?_
    refine held_reads (rs := [0, 1, 2, 3, 4, 5, 6, 7, 8, 9, 10, 11, 12, 13, 14, 15, 16]) (fuel := 14) (by kernel_rfl) (fun c d v a w h => by cases d <;> exact h) (by kernel_rfl) (Since.drew _) (fun K hK => ?_)
    refine calm_do (.pointer (some ⟨g + 1, 0, none⟩)) rfl (by rfl) (fun w' hw' => ?_) ?_
    · skip
      go_simp
    go_simp
    refine calm_do (.int .i64 x) rfl (by rfl) (fun w' hw' => ?_) ?_
    · have hx' := hx.below hw' (Nat.le_refl _)
      obtain ⟨_, d0, d1, d2⟩ := hx'
      go_simp
    go_simp
    refine calm_do (.bool true) rfl (by rfl) (fun w' hw' => ?_) ?_
    · skip
      go_simp
      all_goals (first | omega | (simp; omega))
    go_simp
    refine calm_move _ rfl (by rfl) rfl ?_
    go_simp
    refine calm_do (.pointer (some ⟨g + 1, 0, none⟩)) rfl (by rfl) (fun w' hw' => ?_) ?_
    · skip
      go_simp
    go_simp
    refine calm_do (.int .i64 x) rfl (by rfl) (fun w' hw' => ?_) ?_
    · have hx' := hx.below hw' (Nat.le_refl _)
      obtain ⟨_, d0, d1, d2⟩ := hx'
      go_simp
    go_simp
    refine calm_do (.bool true) rfl (by rfl) (fun w' hw' => ?_) ?_
    · skip
      go_simp
      all_goals (first | omega | (simp; omega))
    go_simp
    refine calm_do (.bool true) rfl (by rfl) (fun w' hw' => ?_) ?_
    · skip
      go_simp
    go_simp
    refine calm_move _ rfl (by rfl) rfl ?_
    go_simp
    refine calm_do (.pointer (some ⟨g + 1, 1, none⟩)) rfl (by rfl) (fun w' hw' => ?_) ?_
    · skip
      go_simp
    go_simp
    refine calm_do (.int .i64 y) rfl (by rfl) (fun w' hw' => ?_) ?_
    · have hx' := hx.below hw' (Nat.le_refl _)
      obtain ⟨_, d0, d1, d2⟩ := hx'
      go_simp
    go_simp
    refine calm_do (.bool true) rfl (by rfl) (fun w' hw' => ?_) ?_
    · skip
      go_simp
      all_goals (first | omega | (simp; omega))
    go_simp
    refine calm_do (.bool true) rfl (by rfl) (fun w' hw' => ?_) ?_
    · skip
      go_simp
    go_simp
    refine calm_move _ rfl (by rfl) rfl ?_
    go_simp
    refine calm_do (.pointer (some ⟨g + 1, 1, none⟩)) rfl (by rfl) (fun w' hw' => ?_) ?_
    · skip
      go_simp
    go_simp
    refine calm_do (.int .i64 y) rfl (by rfl) (fun w' hw' => ?_) ?_
    · have hx' := hx.below hw' (Nat.le_refl _)
      obtain ⟨_, d0, d1, d2⟩ := hx'
      go_simp
    go_simp
    refine calm_do (.agg #[.int .i64 b, .int .i64 p, .int .i64 s, .int .i64 n, .int .i64 f]) rfl (by rfl) (fun w' hw' => ?_) ?_
    · have gb' := gb.below hw' (Nat.le_refl _)
      obtain ⟨_, c0, c1, c2, c3, c4⟩ := gb'
      go_simp
    go_simp
    refine calm_nil (hK.out _ ?_)
    clear hK K
    refine held_call (i := 17) (fuel := 13) (by kernel_rfl) rfl (by rfl) (fun K hK => ?_)
    go_simp
    have qd := Since.drew w0
    replace gb := gb.below qd (Nat.le_refl _)
    replace hx := hx.below qd (Nat.le_refl _)
    replace q1 := btrans q1 qd
    clear qd
    refine (hcap _).mono ?_
    rintro e w1 ⟨rfl, qq0⟩
    refine hK _ _ (Since.trans (Since.drew _) qq0) ?_
    have qq : Since _ _ := qq0
    clear hK K qq0
    replace gb := gb.below qq (Nat.le_refl _)
    replace hx := hx.below qq (Nat.le_refl _)
    replace q1 := btrans q1 qq
    clear qq
    refine held_reads (rs := [18, 19, 20, 21, 22, 23, 24, 25, 26, 27, 28, 29, 30]) (fuel := 0) (by kernel_rfl) (fun c d v a w h => by cases d <;> exact h) (by kernel_rfl) (Since.refl _) (fun K hK => ?_)
    go_simp
    refine calm_do (.bool false) rfl (by rfl) (fun w' hw' => ?_) ?_
    · skip
      go_simp
      all_goals (first | omega | (simp; omega))
    go_simp
    refine calm_do (.bool false) rfl (by rfl) (fun w' hw' => ?_) ?_
    · skip
      go_simp
    go_simp
    refine calm_move _ rfl (by rfl) rfl ?_
    go_simp
    refine calm_skip rfl (by rfl) ?_
    go_simp
    refine calm_skip rfl (by rfl) ?_
    go_simp
    refine calm_skip rfl (by rfl) ?_
    go_simp
    refine calm_do (.bool false) rfl (by rfl) (fun w' hw' => ?_) ?_
    · skip
      go_simp
    go_simp
    refine calm_move _ rfl (by rfl) rfl ?_
    go_simp
    refine calm_skip rfl (by rfl) ?_
    go_simp
    refine calm_skip rfl (by rfl) ?_
    go_simp
    refine calm_skip rfl (by rfl) ?_
    go_simp
    refine calm_do (.bool false) rfl (by rfl) (fun w' hw' => ?_) ?_
    · skip
      go_simp
    go_simp
    refine calm_assign _ rfl (by rfl) rfl ?_
    go_simp
    refine calm_nil (hK.out _ ?_)
    clear hK K
    refine wpAnyH_done (by kernel_rfl) ?_ _
    go_wp2
    go_ret
    exact ⟨ret_bool HM.out.symm, q1⟩
  by_cases h4 : 1 ≤ z
  case neg =>
    have HM : Hid (mayH C x y z = false) := mayH_no (by omega)
    go_enter Try.func15, Try.ntmps15
    go_wp2_with fail
    have gb := gbox_ahead w 23 b p s n f (.cells #[.int .i64 x, .int .i64 y, .int .i64 z] 25)
    have hx := hbox_two w (.cells #[.int .i64 b, .int .i64 p, .int .i64 s, .int .i64 n, .int .i64 f] 23) 25 x y z
    have q1 := below_two w (.cells #[.int .i64 b, .int .i64 p, .int .i64 s, .int .i64 n, .int .i64 f] 23) (.cells #[.int .i64 x, .int .i64 y, .int .i64 z] 25)
    generalize (w.alloc (.cells #[.int .i64 b, .int .i64 p, .int .i64 s, .int .i64 n, .int .i64 f] 23)).alloc (.cells #[.int .i64 x, .int .i64 y, .int .i64 z] 25) = w0 at *
    generalize hgg : w.heap.size = g at gb hx
    go_wp2_with fail
    refine held_begin (by kernel_rfl) ?_
    refine held_reads (rs := [0, 1, 2, 3, 4, 5, 6, 7, 8, 9, 10, 11, 12, 13, 14, 15, 16]) (fuel := 14) (by kernel_rfl) (fun c d v a w h => by cases d <;> exact h) (by kernel_rfl) (Since.drew _) (fun K hK => ?_)
    refine calm_do (.pointer (some ⟨g + 1, 0, none⟩)) rfl (by rfl) (fun w' hw' => ?_) ?_
    · skip
      go_simp
    go_simp
    refine calm_do (.int .i64 x) rfl (by rfl) (fun w' hw' => ?_) ?_
    · have hx' := hx.below hw' (Nat.le_refl _)
      obtain ⟨_, d0, d1, d2⟩ := hx'
      go_simp
    go_simp
    refine calm_do (.bool true) rfl (by rfl) (fun w' hw' => ?_) ?_
    · skip
      go_simp
      all_goals (first | omega | (simp; omega))
    go_simp
    refine calm_move _ rfl (by rfl) rfl ?_
    go_simp
    refine calm_do (.pointer (some ⟨g + 1, 0, none⟩)) rfl (by rfl) (fun w' hw' => ?_) ?_
    · skip
      go_simp
    go_simp
    refine calm_do (.int .i64 x) rfl (by rfl) (fun w' hw' => ?_) ?_
    · have hx' := hx.below hw' (Nat.le_refl _)
      obtain ⟨_, d0, d1, d2⟩ := hx'
      go_simp
    go_simp
    refine calm_do (.bool true) rfl (by rfl) (fun w' hw' => ?_) ?_
    · skip
      go_simp
      all_goals (first | omega | (simp; omega))
    go_simp
    refine calm_do (.bool true) rfl (by rfl) (fun w' hw' => ?_) ?_
    · skip
      go_simp
    go_simp
    refine calm_move _ rfl (by rfl) rfl ?_
    go_simp
    refine calm_do (.pointer (some ⟨g + 1, 1, none⟩)) rfl (by rfl) (fun w' hw' => ?_) ?_
    · skip
      go_simp
    go_simp
    refine calm_do (.int .i64 y) rfl (by rfl) (fun w' hw' => ?_) ?_
    · have hx' := hx.below hw' (Nat.le_refl _)
      obtain ⟨_, d0, d1, d2⟩ := hx'
      go_simp
    go_simp
    refine calm_do (.bool true) rfl (by rfl) (fun w' hw' => ?_) ?_
    · skip
      go_simp
      all_goals (first | omega | (simp; omega))
    go_simp
    refine calm_do (.bool true) rfl (by rfl) (fun w' hw' => ?_) ?_
    · skip
      go_simp
    go_simp
    refine calm_move _ rfl (by rfl) rfl ?_
    go_simp
    refine calm_do (.pointer (some ⟨g + 1, 1, none⟩)) rfl (by rfl) (fun w' hw' => ?_) ?_
    · skip
      go_simp
    go_simp
    refine calm_do (.int .i64 y) rfl (by rfl) (fun w' hw' => ?_) ?_
    · have hx' := hx.below hw' (Nat.le_refl _)
      obtain ⟨_, d0, d1, d2⟩ := hx'
      go_simp
    go_simp
    refine calm_do (.agg #[.int .i64 b, .int .i64 p, .int .i64 s, .int .i64 n, .int .i64 f]) rfl (by rfl) (fun w' hw' => ?_) ?_
    · have gb' := gb.below hw' (Nat.le_refl _)
      obtain ⟨_, c0, c1, c2, c3, c4⟩ := gb'
      go_simp
    go_simp
    refine calm_nil (hK.out _ ?_)
    clear hK K
    refine held_call (i := 17) (fuel := 13) (by kernel_rfl) rfl (by rfl) (fun K hK => ?_)
    go_simp
    have qd := Since.drew w0
    replace gb := gb.below qd (Nat.le_refl _)
    replace hx := hx.below qd (Nat.le_refl _)
    replace q1 := btrans q1 qd
    clear qd
    refine (hcap _).mono ?_
    rintro e w1 ⟨rfl, qq0⟩
    refine hK _ _ (Since.trans (Since.drew _) qq0) ?_
    have qq : Since _ _ := qq0
    clear hK K qq0
    replace gb := gb.below qq (Nat.le_refl _)
    replace hx := hx.below qq (Nat.le_refl _)
    replace q1 := btrans q1 qq
    clear qq
    refine held_reads (rs := [18, 19, 20, 21, 22, 23, 24, 25, 26, 27, 28, 29, 30]) (fuel := 0) (by kernel_rfl) (fun c d v a w h => by cases d <;> exact h) (by kernel_rfl) (Since.refl _) (fun K hK => ?_)
    go_simp
    refine calm_do (.bool true) rfl (by rfl) (fun w' hw' => ?_) ?_
    · skip
      go_simp
      all_goals (first | omega | (simp; omega))
    go_simp
    refine calm_do (.bool true) rfl (by rfl) (fun w' hw' => ?_) ?_
    · skip
      go_simp
    go_simp
    refine calm_move _ rfl (by rfl) rfl ?_
    go_simp
    refine calm_do (.pointer (some ⟨g + 1, 2, none⟩)) rfl (by rfl) (fun w' hw' => ?_) ?_
    · skip
      go_simp
    go_simp
    refine calm_do (.int .i64 z) rfl (by rfl) (fun w' hw' => ?_) ?_
    · have hx' := hx.below hw' (Nat.le_refl _)
      obtain ⟨_, d0, d1, d2⟩ := hx'
      go_simp
    go_simp
    refine calm_do (.bool false) rfl (by rfl) (fun w' hw' => ?_) ?_
    · skip
      go_simp
      all_goals (first | omega | (simp; omega))
    go_simp
    refine calm_do (.bool false) rfl (by rfl) (fun w' hw' => ?_) ?_
    · skip
      go_simp
    go_simp
    refine calm_move _ rfl (by rfl) rfl ?_
    go_simp
    refine calm_skip rfl (by rfl) ?_
    go_simp
    refine calm_skip rfl (by rfl) ?_
    go_simp
    refine calm_skip rfl (by rfl) ?_
    go_simp
    refine calm_do (.bool false) rfl (by rfl) (fun w' hw' => ?_) ?_
    · skip
      go_simp
    go_simp
    refine calm_assign _ rfl (by rfl) rfl ?_
    go_simp
    refine calm_nil (hK.out _ ?_)
    clear hK K
    refine wpAnyH_done (by kernel_rfl) ?_ _
    go_wp2
    go_ret
    exact ⟨ret_bool HM.out.symm, q1⟩
  by_cases h5 : z ≤ 1000000000
  case neg =>
    have HM : Hid (mayH C x y z = false) := mayH_no (by omega)
    go_enter Try.func15, Try.ntmps15
    go_wp2_with fail
    have gb := gbox_ahead w 23 b p s n f (.cells #[.int .i64 x, .int .i64 y, .int .i64 z] 25)
    have hx := hbox_two w (.cells #[.int .i64 b, .int .i64 p, .int .i64 s, .int .i64 n, .int .i64 f] 23) 25 x y z
    have q1 := below_two w (.cells #[.int .i64 b, .int .i64 p, .int .i64 s, .int .i64 n, .int .i64 f] 23) (.cells #[.int .i64 x, .int .i64 y, .int .i64 z] 25)
    generalize (w.alloc (.cells #[.int .i64 b, .int .i64 p, .int .i64 s, .int .i64 n, .int .i64 f] 23)).alloc (.cells #[.int .i64 x, .int .i64 y, .int .i64 z] 25) = w0 at *
    generalize hgg : w.heap.size = g at gb hx
    go_wp2_with fail
    refine held_begin (by kernel_rfl) ?_
    refine held_reads (rs := [0, 1, 2, 3, 4, 5, 6, 7, 8, 9, 10, 11, 12, 13, 14, 15, 16]) (fuel := 14) (by kernel_rfl) (fun c d v a w h => by cases d <;> exact h) (by kernel_rfl) (Since.drew _) (fun K hK => ?_)
    refine calm_do (.pointer (some ⟨g + 1, 0, none⟩)) rfl (by rfl) (fun w' hw' => ?_) ?_
    · skip
      go_simp
    go_simp
    refine calm_do (.int .i64 x) rfl (by rfl) (fun w' hw' => ?_) ?_
    · have hx' := hx.below hw' (Nat.le_refl _)
      obtain ⟨_, d0, d1, d2⟩ := hx'
      go_simp
    go_simp
    refine calm_do (.bool true) rfl (by rfl) (fun w' hw' => ?_) ?_
    · skip
      go_simp
      all_goals (first | omega | (simp; omega))
    go_simp
    refine calm_move _ rfl (by rfl) rfl ?_
    go_simp
    refine calm_do (.pointer (some ⟨g + 1, 0, none⟩)) rfl (by rfl) (fun w' hw' => ?_) ?_
    · skip
      go_simp
    go_simp
    refine calm_do (.int .i64 x) rfl (by rfl) (fun w' hw' => ?_) ?_
    · have hx' := hx.below hw' (Nat.le_refl _)
      obtain ⟨_, d0, d1, d2⟩ := hx'
      go_simp
    go_simp
    refine calm_do (.bool true) rfl (by rfl) (fun w' hw' => ?_) ?_
    · skip
      go_simp
      all_goals (first | omega | (simp; omega))
    go_simp
    refine calm_do (.bool true) rfl (by rfl) (fun w' hw' => ?_) ?_
    · skip
      go_simp
    go_simp
    refine calm_move _ rfl (by rfl) rfl ?_
    go_simp
    refine calm_do (.pointer (some ⟨g + 1, 1, none⟩)) rfl (by rfl) (fun w' hw' => ?_) ?_
    · skip
      go_simp
    go_simp
    refine calm_do (.int .i64 y) rfl (by rfl) (fun w' hw' => ?_) ?_
    · have hx' := hx.below hw' (Nat.le_refl _)
      obtain ⟨_, d0, d1, d2⟩ := hx'
      go_simp
    go_simp
    refine calm_do (.bool true) rfl (by rfl) (fun w' hw' => ?_) ?_
    · skip
      go_simp
      all_goals (first | omega | (simp; omega))
    go_simp
    refine calm_do (.bool true) rfl (by rfl) (fun w' hw' => ?_) ?_
    · skip
      go_simp
    go_simp
    refine calm_move _ rfl (by rfl) rfl ?_
    go_simp
    refine calm_do (.pointer (some ⟨g + 1, 1, none⟩)) rfl (by rfl) (fun w' hw' => ?_) ?_
    · skip
      go_simp
    go_simp
    refine calm_do (.int .i64 y) rfl (by rfl) (fun w' hw' => ?_) ?_
    · have hx' := hx.below hw' (Nat.le_refl _)
      obtain ⟨_, d0, d1, d2⟩ := hx'
      go_simp
    go_simp
    refine calm_do (.agg #[.int .i64 b, .int .i64 p, .int .i64 s, .int .i64 n, .int .i64 f]) rfl (by rfl) (fun w' hw' => ?_) ?_
    · have gb' := gb.below hw' (Nat.le_refl _)
      obtain ⟨_, c0, c1, c2, c3, c4⟩ := gb'
      go_simp
    go_simp
    refine calm_nil (hK.out _ ?_)
    clear hK K
    refine held_call (i := 17) (fuel := 13) (by kernel_rfl) rfl (by rfl) (fun K hK => ?_)
    go_simp
    have qd := Since.drew w0
    replace gb := gb.below qd (Nat.le_refl _)
    replace hx := hx.below qd (Nat.le_refl _)
    replace q1 := btrans q1 qd
    clear qd
    refine (hcap _).mono ?_
    rintro e w1 ⟨rfl, qq0⟩
    refine hK _ _ (Since.trans (Since.drew _) qq0) ?_
    have qq : Since _ _ := qq0
    clear hK K qq0
    replace gb := gb.below qq (Nat.le_refl _)
    replace hx := hx.below qq (Nat.le_refl _)
    replace q1 := btrans q1 qq
    clear qq
    refine held_reads (rs := [18, 19, 20, 21, 22, 23, 24, 25, 26, 27, 28, 29, 30]) (fuel := 0) (by kernel_rfl) (fun c d v a w h => by cases d <;> exact h) (by kernel_rfl) (Since.refl _) (fun K hK => ?_)
    go_simp
    refine calm_do (.bool true) rfl (by rfl) (fun w' hw' => ?_) ?_
    · skip
      go_simp
      all_goals (first | omega | (simp; omega))
    go_simp
    refine calm_do (.bool true) rfl (by rfl) (fun w' hw' => ?_) ?_
    · skip
      go_simp
    go_simp
    refine calm_move _ rfl (by rfl) rfl ?_
    go_simp
    refine calm_do (.pointer (some ⟨g + 1, 2, none⟩)) rfl (by rfl) (fun w' hw' => ?_) ?_
    · skip
      go_simp
    go_simp
    refine calm_do (.int .i64 z) rfl (by rfl) (fun w' hw' => ?_) ?_
    · have hx' := hx.below hw' (Nat.le_refl _)
      obtain ⟨_, d0, d1, d2⟩ := hx'
      go_simp
    go_simp
    refine calm_do (.bool true) rfl (by rfl) (fun w' hw' => ?_) ?_
    · skip
      go_simp
      all_goals (first | omega | (simp; omega))
    go_simp
    refine calm_do (.bool true) rfl (by rfl) (fun w' hw' => ?_) ?_
    · skip
      go_simp
    go_simp
    refine calm_move _ rfl (by rfl) rfl ?_
    go_simp
    refine calm_do (.pointer (some ⟨g + 1, 2, none⟩)) rfl (by rfl) (fun w' hw' => ?_) ?_
    · skip
      go_simp
    go_simp
    refine calm_do (.int .i64 z) rfl (by rfl) (fun w' hw' => ?_) ?_
    · have hx' := hx.below hw' (Nat.le_refl _)
      obtain ⟨_, d0, d1, d2⟩ := hx'
      go_simp
    go_simp
    refine calm_do (.bool false) rfl (by rfl) (fun w' hw' => ?_) ?_
    · skip
      go_simp
      all_goals (first | omega | (simp; omega))
    go_simp
    refine calm_do (.bool false) rfl (by rfl) (fun w' hw' => ?_) ?_
    · skip
      go_simp
    go_simp
    refine calm_assign _ rfl (by rfl) rfl ?_
    go_simp
    refine calm_nil (hK.out _ ?_)
    clear hK K
    refine wpAnyH_done (by kernel_rfl) ?_ _
    go_wp2
    go_ret
    exact ⟨ret_bool HM.out.symm, q1⟩
  have HM : Hid (mayH C x y z = true) := by show _ = _; unfold mayH; rw [decide_eq_true_iff]; omega
  go_enter Try.func15, Try.ntmps15
  go_wp2_with fail
  have gb := gbox_ahead w 23 b p s n f (.cells #[.int .i64 x, .int .i64 y, .int .i64 z] 25)
  have hx := hbox_two w (.cells #[.int .i64 b, .int .i64 p, .int .i64 s, .int .i64 n, .int .i64 f] 23) 25 x y z
  have q1 := below_two w (.cells #[.int .i64 b, .int .i64 p, .int .i64 s, .int .i64 n, .int .i64 f] 23) (.cells #[.int .i64 x, .int .i64 y, .int .i64 z] 25)
  generalize (w.alloc (.cells #[.int .i64 b, .int .i64 p, .int .i64 s, .int .i64 n, .int .i64 f] 23)).alloc (.cells #[.int .i64 x, .int .i64 y, .int .i64 z] 25) = w0 at *
  generalize hgg : w.heap.size = g at gb hx
  go_wp2_with fail
  refine held_begin (by kernel_rfl) ?_
  refine held_reads (rs := [0, 1, 2, 3, 4, 5, 6, 7, 8, 9, 10, 11, 12, 13, 14, 15, 16]) (fuel := 14) (by kernel_rfl) (fun c d v a w h => by cases d <;> exact h) (by kernel_rfl) (Since.drew _) (fun K hK => ?_)
  refine calm_do (.pointer (some ⟨g + 1, 0, none⟩)) rfl (by rfl) (fun w' hw' => ?_) ?_
  · skip
    go_simp
  go_simp
  refine calm_do (.int .i64 x) rfl (by rfl) (fun w' hw' => ?_) ?_
  · have hx' := hx.below hw' (Nat.le_refl _)
    obtain ⟨_, d0, d1, d2⟩ := hx'
    go_simp
  go_simp
  refine calm_do (.bool true) rfl (by rfl) (fun w' hw' => ?_) ?_
  · skip
    go_simp
    all_goals (first | omega | (simp; omega))
  go_simp
  refine calm_move _ rfl (by rfl) rfl ?_
  go_simp
  refine calm_do (.pointer (some ⟨g + 1, 0, none⟩)) rfl (by rfl) (fun w' hw' => ?_) ?_
  · skip
    go_simp
  go_simp
  refine calm_do (.int .i64 x) rfl (by rfl) (fun w' hw' => ?_) ?_
  · have hx' := hx.below hw' (Nat.le_refl _)
    obtain ⟨_, d0, d1, d2⟩ := hx'
    go_simp
  go_simp
  refine calm_do (.bool true) rfl (by rfl) (fun w' hw' => ?_) ?_
  · skip
    go_simp
    all_goals (first | omega | (simp; omega))
  go_simp
  refine calm_do (.bool true) rfl (by rfl) (fun w' hw' => ?_) ?_
  · skip
    go_simp
  go_simp
  refine calm_move _ rfl (by rfl) rfl ?_
  go_simp
  refine calm_do (.pointer (some ⟨g + 1, 1, none⟩)) rfl (by rfl) (fun w' hw' => ?_) ?_
  · skip
    go_simp
  go_simp
  refine calm_do (.int .i64 y) rfl (by rfl) (fun w' hw' => ?_) ?_
  · have hx' := hx.below hw' (Nat.le_refl _)
    obtain ⟨_, d0, d1, d2⟩ := hx'
    go_simp
  go_simp
  refine calm_do (.bool true) rfl (by rfl) (fun w' hw' => ?_) ?_
  · skip
    go_simp
    all_goals (first | omega | (simp; omega))
  go_simp
  refine calm_do (.bool true) rfl (by rfl) (fun w' hw' => ?_) ?_
  · skip
    go_simp
  go_simp
  refine calm_move _ rfl (by rfl) rfl ?_
  go_simp
  refine calm_do (.pointer (some ⟨g + 1, 1, none⟩)) rfl (by rfl) (fun w' hw' => ?_) ?_
  · skip
    go_simp
  go_simp
  refine calm_do (.int .i64 y) rfl (by rfl) (fun w' hw' => ?_) ?_
  · have hx' := hx.below hw' (Nat.le_refl _)
    obtain ⟨_, d0, d1, d2⟩ := hx'
    go_simp
  go_simp
  refine calm_do (.agg #[.int .i64 b, .int .i64 p, .int .i64 s, .int .i64 n, .int .i64 f]) rfl (by rfl) (fun w' hw' => ?_) ?_
  · have gb' := gb.below hw' (Nat.le_refl _)
    obtain ⟨_, c0, c1, c2, c3, c4⟩ := gb'
    go_simp
  go_simp
  refine calm_nil (hK.out _ ?_)
  clear hK K
  refine held_call (i := 17) (fuel := 13) (by kernel_rfl) rfl (by rfl) (fun K hK => ?_)
  go_simp
  have qd := Since.drew w0
  replace gb := gb.below qd (Nat.le_refl _)
  replace hx := hx.below qd (Nat.le_refl _)
  replace q1 := btrans q1 qd
  clear qd
  refine (hcap _).mono ?_
  rintro e w1 ⟨rfl, qq0⟩
  refine hK _ _ (Since.trans (Since.drew _) qq0) ?_
  have qq : Since _ _ := qq0
  clear hK K qq0
  replace gb := gb.below qq (Nat.le_refl _)
  replace hx := hx.below qq (Nat.le_refl _)
  replace q1 := btrans q1 qq
  clear qq
  refine held_reads (rs := [18, 19, 20, 21, 22, 23, 24, 25, 26, 27, 28, 29, 30]) (fuel := 0) (by kernel_rfl) (fun c d v a w h => by cases d <;> exact h) (by kernel_rfl) (Since.refl _) (fun K hK => ?_)
  go_simp
  refine calm_do (.bool true) rfl (by rfl) (fun w' hw' => ?_) ?_
  · skip
    go_simp
    all_goals (first | omega | (simp; omega))
  go_simp
  refine calm_do (.bool true) rfl (by rfl) (fun w' hw' => ?_) ?_
  · skip
    go_simp
  go_simp
  refine calm_move _ rfl (by rfl) rfl ?_
  go_simp
  refine calm_do (.pointer (some ⟨g + 1, 2, none⟩)) rfl (by rfl) (fun w' hw' => ?_) ?_
  · skip
    go_simp
  go_simp
  refine calm_do (.int .i64 z) rfl (by rfl) (fun w' hw' => ?_) ?_
  · have hx' := hx.below hw' (Nat.le_refl _)
    obtain ⟨_, d0, d1, d2⟩ := hx'
    go_simp
  go_simp
  refine calm_do (.bool true) rfl (by rfl) (fun w' hw' => ?_) ?_
  · skip
    go_simp
    all_goals (first | omega | (simp; omega))
  go_simp
  refine calm_do (.bool true) rfl (by rfl) (fun w' hw' => ?_) ?_
  · skip
    go_simp
  go_simp
  refine calm_move _ rfl (by rfl) rfl ?_
  go_simp
  refine calm_do (.pointer (some ⟨g + 1, 2, none⟩)) rfl (by rfl) (fun w' hw' => ?_) ?_
  · skip
    go_simp
  go_simp
  refine calm_do (.int .i64 z) rfl (by rfl) (fun w' hw' => ?_) ?_
  · have hx' := hx.below hw' (Nat.le_refl _)
    obtain ⟨_, d0, d1, d2⟩ := hx'
    go_simp
  go_simp
  refine calm_do (.bool true) rfl (by rfl) (fun w' hw' => ?_) ?_
  · skip
    go_simp
    all_goals (first | omega | (simp; omega))
  go_simp
  refine calm_do (.bool true) rfl (by rfl) (fun w' hw' => ?_) ?_
  · skip
    go_simp
  go_simp
  refine calm_assign _ rfl (by rfl) rfl ?_
  go_simp
  refine calm_nil (hK.out _ ?_)
  clear hK K
  refine wpAnyH_done (by kernel_rfl) ?_ _
  go_wp2
  go_ret
  exact ⟨ret_bool HM.out.symm, q1⟩

end Go.Proofs.Ytefpmidjedfjmaa
