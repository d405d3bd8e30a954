/-
  The document's answer of layer 6 (casemateref06): May, Room, Whole, Raw, sector; small, tiny, turned of the laws. (Written by tools/gen/ecc_ref.py.)
-/
import Derived.Test.YtggpgdaacbmmdaaGreatPackK
import Derived.Test.YtggpgdaacbmmdaaGreatPackG
namespace Go.Proofs.YtggpgdaacbmmdaaGreat
open Go.RowKit
set_option linter.unusedVariables false
set_option maxRecDepth 8192

theorem below_drews (w : World) (n : Nat) : Below w.heap.size w (w.drewN n) := ⟨rfl, rfl, rfl, Nat.le_refl _, fun _ _ => rfl⟩
set_option maxHeartbeats 1600000 in
theorem refMay_any (b p s n f : Int) (w : World) : Calls Tryz.prog 31 #[.agg #[.int .i64 b, .int .i64 p, .int .i64 s, .int .i64 n, .int .i64 f]] w fun e w' => e = .returned (.bool (mayG b p s n f)) ∧ Below w.heap.size w w' := by
  by_cases hsn : 1 ≤ s ∧ s ≤ 8 ∧ 4 ≤ n ∧ n ≤ 512
  · obtain ⟨h1, h2, h3, h4⟩ := hsn
    obtain ⟨s, rfl⟩ := Int.eq_ofNat_of_zero_le (show 0 ≤ s by omega)
    obtain ⟨n, rfl⟩ := Int.eq_ofNat_of_zero_le (show 0 ≤ n by omega)
    have hsn : s * n ≤ 8 * 512 := Nat.mul_le_mul (by omega) (by omega)
    have u1 : IntKind.i64.wrap ((s : Int) * (n : Int)) = ((s * n : Nat) : Int) := by rw [← Int.natCast_mul, IntKind.wrap_i64]; omega
    have HM : Hid (∀ x : Bool, ((1 ≤ b ∧ b ≤ 256 ∧ 2 ≤ p ∧ p ≤ 64 ∧ (n : Int) % 4 = 0 ∧ 1 ≤ f ∧ f ≤ 8 ∧ 16 ≤ s * n) ↔ x = true) → x = mayG b p s n f) := fun x h => by
      unfold mayG
      rw [← Int.natCast_mul]
      cases x
      · symm; rw [decide_eq_false_iff_not]; intro hh; have := h.1 (by omega); simp at this
      · symm; rw [decide_eq_true_iff]; have := h.2 rfl; omega
    go_enter Tryz.func31, Tryz.ntmps31
    go_wp2
    all_goals (go_ret; refine ⟨ret_bool (HM.out _ ?_), below_one _ _⟩; simp only [decide_eq_true_iff, Bool.false_eq_true, iff_false]; omega)
  · have HM : Hid (mayG b p s n f = false) := mayG_no (fun h => hsn ⟨h.2.2.2.2.1, h.2.2.2.2.2.1, h.2.2.2.2.2.2.1, h.2.2.2.2.2.2.2.1⟩)
    go_enter Tryz.func31, Tryz.ntmps31
    go_wp2
    all_goals (first | (go_ret; exact ⟨ret_bool HM.out.symm, below_one _ _⟩) | (exfalso; omega))
theorem refRoom_any (b p f : Int) (s n R : Nat) (hR : s * n = R) (hs : s ≤ 8) (hn : n ≤ 512) (w : World) : Calls Tryz.prog 20 #[.agg #[.int .i64 b, .int .i64 p, .int .i64 ((s : Nat)), .int .i64 ((n : Nat)), .int .i64 f]] w fun e w' => e = .returned (.int .i64 (R : Int)) ∧ Below w.heap.size w w' := by
  have hsn : s * n ≤ 8 * 512 := Nat.mul_le_mul hs hn
  go_enter Tryz.func20, Tryz.ntmps20
  go_wp2
  go_ret
  exact ⟨ret_int (by rw [← hR]; exact (Int.natCast_mul s n).symm), below_one _ _⟩
set_option maxHeartbeats 800000 in
theorem refWhole_any {b p : Int} {s n f R m W L : Nat} (G : GOk b p s n f R m W L) (w : World) : Calls Tryz.prog 22 #[.agg #[.int .i64 b, .int .i64 p, .int .i64 ((s : Nat)), .int .i64 ((n : Nat)), .int .i64 ((f : Nat))]] w fun e w' => e = .returned (.int .i64 (W : Int)) ∧ Below w.heap.size w w' := by
  have hsz := refSize_any f
  rw [G.hm] at hsz
  have hn2 := G.hn
  have hm2 := G.m2
  have hf2 := G.hf
  have HW : Hid (n + m = W) := G.hW
  clear G
  go_enter Tryz.func22, Tryz.ntmps22
  go_wp2_with fail
  go_quiet ((go_at_call 55; exact quiet_eq (hsz _ hf2.2)))
  go_wp2
  go_ret
  exact ⟨ret_int (by have := HW.out; omega), btrans (below_one _ _) (below_drews _ _)⟩
theorem gok_ex {b p s n f : Int} (h : mayG b p s n f = true) (hr : s * n ≤ 64) : ∃ (S N F R m W L : Nat), s = S ∧ n = N ∧ f = F ∧ GOk b p S N F R m W L := by
  obtain ⟨S, N, F, h1, h2, h3, G⟩ := gok_of h hr
  exact ⟨S, N, F, _, _, _, _, h1, h2, h3, G⟩
set_option maxHeartbeats 800000 in
theorem refRaw_any {b p : Int} {s n f R m W L : Nat} (G : GOk b p s n f R m W L) (w : World) : Calls Tryz.prog 28 #[.agg #[.int .i64 b, .int .i64 p, .int .i64 ((s : Nat)), .int .i64 ((n : Nat)), .int .i64 ((f : Nat))]] w fun e w' => e = .returned (.int .i64 (L : Int)) ∧ Below w.heap.size w w' := by
  have hwh := refWhole_any G
  have hL := G.hL
  have hW2 := G.W2
  have hs2 := G.hs
  have hL2 := G.L2
  clear G
  obtain ⟨SW, hSW⟩ : ∃ SW, s * W = SW := ⟨_, rfl⟩
  rw [hSW] at hL
  have HSW : Hid (s * W = SW) := hSW
  have HL : Hid (SW + 1 = L) := hL
  clear hL hSW
  go_enter Tryz.func28, Tryz.ntmps28
  go_wp2_with fail
  have gb := gbox_new w 23 b p s n f
  have q1 := below_one w (.cells #[.int .i64 b, .int .i64 p, .int .i64 s, .int .i64 n, .int .i64 f] 23)
  generalize w.alloc (.cells #[.int .i64 b, .int .i64 p, .int .i64 s, .int .i64 n, .int .i64 f] 23) = w0 at *
  generalize hgg : w.heap.size = g at gb
  go_wp2_with fail
  refine held_begin (by kernel_rfl) ?_
  refine held_reads (rs := [0, 1, 2]) (fuel := 4) (by kernel_rfl) (fun c d v a w h => by cases d <;> exact h) (by kernel_rfl) (Since.drew _) (fun K hK => ?_)
  refine calm_do (.pointer (some ⟨g, 2, none⟩)) rfl (by rfl) (fun w' hw' => ?_) ?_
  · skip
    go_simp
  go_simp
  refine calm_do (.int .i64 s) rfl (by rfl) (fun w' hw' => ?_) ?_
  · have gb' := gb.below hw' (Nat.le_refl _)
    obtain ⟨_, c0, c1, c2, c3, c4⟩ := gb'
    go_simp
  go_simp
  refine calm_do (.agg #[.int .i64 b, .int .i64 p, .int .i64 s, .int .i64 n, .int .i64 f]) rfl (by rfl) (fun w' hw' => ?_) ?_
  · have gb' := gb.below hw' (Nat.le_refl _)
    obtain ⟨_, c0, c1, c2, c3, c4⟩ := gb'
    go_simp
  go_simp
  refine calm_nil (hK.out _ ?_)
  clear hK K
  refine held_call (i := 3) (fuel := 3) (by kernel_rfl) rfl (by rfl) (fun K hK => ?_)
  go_simp
  have qd := Since.drew w0
  replace gb := gb.below qd (Nat.le_refl _)
  replace q1 := btrans q1 qd
  clear qd
  refine (hwh _).mono ?_
  rintro e w1 ⟨rfl, qq0⟩
  refine hK _ _ (Since.trans (Since.drew _) qq0) ?_
  have qq : Since _ _ := qq0
  clear hK K qq0
  replace gb := gb.below qq (Nat.le_refl _)
  replace q1 := btrans q1 qq
  clear qq
  refine held_reads (rs := [4, 5, 6]) (fuel := 0) (by kernel_rfl) (fun c d v a w h => by cases d <;> exact h) (by kernel_rfl) (Since.refl _) (fun K hK => ?_)
  go_simp
  refine calm_do (.int .i64 SW) rfl (by rfl) (fun w' hw' => ?_) ?_
  · skip
    go_simp
    all_goals (rw [← Int.natCast_mul, HSW.out, IntKind.wrap_i64]; have := HL.out; omega)
  go_simp
  refine calm_do (.int .i64 L) rfl (by rfl) (fun w' hw' => ?_) ?_
  · skip
    go_simp
    all_goals (rw [IntKind.wrap_i64]; have := HL.out; omega)
  go_simp
  refine calm_assign _ rfl (by rfl) rfl ?_
  go_simp
  refine calm_nil (hK.out _ ?_)
  clear hK K
  refine wpAnyH_done (by kernel_rfl) ?_ _
  go_wp2
  go_ret
  exact ⟨rfl, q1⟩
set_option maxHeartbeats 1600000 in
theorem refSector_raw {b p : Int} {s n f R m W L : Nat} (G : GOk b p s n f R m W L) {i : Nat} (hi : i < s) (rb off len cap F T : Nat) (hcap : L ≤ cap) (hmax : cap ≤ maxLen) (hFF : i * W = F) (hTT : F + W = T) (w : World) :
    Calls Tryz.prog 102 #[.agg #[.int .i64 b, .int .i64 p, .int .i64 ((s : Nat)), .int .i64 ((n : Nat)), .int .i64 ((f : Nat))], .slice (some ⟨rb, off, none⟩) len cap, .int .i64 i] w fun e w' => e = .returned (.slice (some ⟨rb, off + F, none⟩) (T - F) (cap - F)) ∧ Below w.heap.size w w' := by
  have hwh := refWhole_any G
  have hat := G.at_ hi
  have hW2 := G.W2
  have hs2 := G.hs
  have hL2 := G.L2
  clear G
  have HFF : Hid (i * W = F) := hFF
  have HTT : Hid (F + W = T) := hTT
  rw [hFF] at hat
  rw [hTT] at hat
  have hFT : F < T := by omega
  clear hFF hTT
  have HFI : Hid ((i : Int) * (W : Int) = (F : Int)) := by show _ = _; rw [← Int.natCast_mul, HFF.out]
  have HTI : Hid (((i : Int) + 1) * (W : Int) = (T : Int)) := by show _ = _; rw [Int.add_mul, HFI.out]; have := HTT.out; omega
  go_enter Tryz.func102, Tryz.ntmps102
  go_wp2_with fail
  have gb := gbox_new w 23 b p s n f
  have q1 := below_one w (.cells #[.int .i64 b, .int .i64 p, .int .i64 s, .int .i64 n, .int .i64 f] 23)
  generalize w.alloc (.cells #[.int .i64 b, .int .i64 p, .int .i64 s, .int .i64 n, .int .i64 f] 23) = w0 at *
  generalize hgg : w.heap.size = g at gb
  go_wp2_with fail
  refine held_begin (by kernel_rfl) ?_
  refine held_reads (rs := [0, 1, 2, 5, 6, 7]) (fuel := 6) (by kernel_rfl) (fun c d v a w h => by cases d <;> exact h) (by kernel_rfl) (Since.drew _) (fun K hK => ?_)
  refine calm_move _ rfl (by rfl) rfl ?_
  go_simp
  refine calm_move _ rfl (by rfl) rfl ?_
  go_simp
  refine calm_do (.agg #[.int .i64 b, .int .i64 p, .int .i64 s, .int .i64 n, .int .i64 f]) rfl (by rfl) (fun w' hw' => ?_) ?_
  · have gb' := gb.below hw' (Nat.le_refl _)
    obtain ⟨_, c0, c1, c2, c3, c4⟩ := gb'
    go_simp
  go_simp
  refine calm_move _ rfl (by rfl) rfl ?_
  go_simp
  refine calm_do (.int .i64 ((i : Int) + 1)) rfl (by rfl) (fun w' hw' => ?_) ?_
  · skip
    go_simp
    all_goals (rw [IntKind.wrap_i64]; omega)
  go_simp
  refine calm_do (.agg #[.int .i64 b, .int .i64 p, .int .i64 s, .int .i64 n, .int .i64 f]) rfl (by rfl) (fun w' hw' => ?_) ?_
  · have gb' := gb.below hw' (Nat.le_refl _)
    obtain ⟨_, c0, c1, c2, c3, c4⟩ := gb'
    go_simp
  go_simp
  refine calm_nil (hK.out _ ?_)
  clear hK K
  refine held_call (i := 3) (fuel := 5) (by kernel_rfl) rfl (by rfl) (fun K hK => ?_)
  go_simp
  have qd := Since.drew w0
  replace gb := gb.below qd (Nat.le_refl _)
  replace q1 := btrans q1 qd
  clear qd
  refine (hwh _).mono ?_
  rintro e w1 ⟨rfl, qq0⟩
  refine hK _ _ (Since.trans (Since.drew _) qq0) ?_
  have qq : Since _ _ := qq0
  clear hK K qq0
  replace gb := gb.below qq (Nat.le_refl _)
  replace q1 := btrans q1 qq
  clear qq
  refine held_reads (rs := [4]) (fuel := 4) (by kernel_rfl) (fun c d v a w h => by cases d <;> exact h) (by kernel_rfl) (Since.refl _) (fun K hK => ?_)
  go_simp
  refine calm_do (.int .i64 F) rfl (by rfl) (fun w' hw' => ?_) ?_
  · skip
    go_simp
    all_goals (rw [HFI.out, IntKind.wrap_i64]; omega)
  go_simp
  refine calm_nil (hK.out _ ?_)
  clear hK K
  refine held_call (i := 8) (fuel := 3) (by kernel_rfl) rfl (by rfl) (fun K hK => ?_)
  go_simp
  refine (hwh _).mono ?_
  rintro e w2 ⟨rfl, qq0⟩
  refine hK _ _ (Since.trans (Since.refl _) qq0) ?_
  have qq : Since _ _ := qq0
  clear hK K qq0
  replace gb := gb.below qq (Nat.le_refl _)
  replace q1 := btrans q1 qq
  clear qq
  refine held_reads (rs := [9, 10, 11]) (fuel := 0) (by kernel_rfl) (fun c d v a w h => by cases d <;> exact h) (by kernel_rfl) (Since.refl _) (fun K hK => ?_)
  go_simp
  refine calm_do (.int .i64 T) rfl (by rfl) (fun w' hw' => ?_) ?_
  · skip
    go_simp
    all_goals (rw [HTI.out, IntKind.wrap_i64]; omega)
  go_simp
  refine calm_do (.slice (some ⟨rb, off + F, none⟩) (T - F) (cap - F)) rfl (by rfl) (fun w' hw' => ?_) ?_
  · have e1 : (F : Int) ≤ (T : Int) := by omega
    have e2 : (T : Int) ≤ (cap : Int) := by omega
    have e3 : ¬ cap = F := by omega
    go_simp
  go_simp
  refine calm_assign _ rfl (by rfl) rfl ?_
  go_simp
  refine calm_nil (hK.out _ ?_)
  clear hK K
  refine wpAnyH_done (by kernel_rfl) ?_ _
  go_wp2
  go_ret
  exact ⟨rfl, q1⟩
theorem refSector_any {b p : Int} {s n f R m W L : Nat} (G : GOk b p s n f R m W L) {i : Nat} (hi : i < s) (rb off len cap : Nat) (hcap : L ≤ cap) (hmax : cap ≤ maxLen) (w : World) :
    Calls Tryz.prog 102 #[.agg #[.int .i64 b, .int .i64 p, .int .i64 ((s : Nat)), .int .i64 ((n : Nat)), .int .i64 ((f : Nat))], .slice (some ⟨rb, off, none⟩) len cap, .int .i64 i] w fun e w' => e = .returned (.slice (some ⟨rb, off + i * W, none⟩) W (cap - i * W)) ∧ Below w.heap.size w w' := by
  refine (refSector_raw G hi rb off len cap (i * W) (i * W + W) hcap hmax rfl rfl w).mono ?_
  rintro e w1 ⟨h, q⟩
  rw [Nat.add_sub_cancel_left] at h
  exact ⟨h, q⟩

end Go.Proofs.YtggpgdaacbmmdaaGreat
