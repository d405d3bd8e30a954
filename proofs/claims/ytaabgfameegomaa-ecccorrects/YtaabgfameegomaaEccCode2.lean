/-
  The code of layer 6 (ecc), as it landed: cut. (Written by tools/gen/ecc_code.py.)
-/
import Derived.Test.YtaabgfameegomaaEccCode
namespace Go.Proofs.Ytaabgfameegomaa
open Go.RowKit
set_option linter.unusedVariables false
set_option maxRecDepth 8192

set_option maxHeartbeats 1600000 in
theorem cut_raw (hB : HBitsC) {b p : Int} {s n f R m W L : Nat} (G : GOk b p s n f R m W L) {i : Nat} (hi : i < s) (rb off len cap : Nat) (hcap : L ≤ cap) (hmax : cap ≤ maxLen) (F M T : Nat) (hFF : i * W = F) (hM : F + n = M) (hT : M + m = T) (w : World) :
    Calls Try.prog 28 #[.agg #[.int .i64 b, .int .i64 p, .int .i64 ((s : Nat)), .int .i64 ((n : Nat)), .int .i64 ((f : Nat))], .slice (some ⟨rb, off, none⟩) len cap, .int .i64 i] w fun e w' => e = .returned (.tuple #[.slice (some ⟨rb, off + F, none⟩) (M - F) (M - F), .slice (some ⟨rb, off + M, none⟩) (T - M) (T - M)]) ∧ Below w.heap.size w w' := by
  have hmore := eccMore_any hB b p s n f m G.hm G.hf.1 G.hf.2
  have hW2 := G.W2
  have hs2 := G.hs
  have hn2 := G.hn
  have hm2 := G.m2
  have hat := G.at_ hi
  have hL2 := G.L2
  have HW : Hid (n + m = W) := G.hW
  clear G
  have HFF : Hid (i * W = F) := hFF
  have hF : T + 1 ≤ L := by have := HW.out; have := HFF.out; omega
  clear hFF hat
  have HMM : Hid (F + n = M) := hM
  have HTT : Hid (M + m = T) := hT
  have hFM : F < M := by omega
  have hMT : M < T := by omega
  clear hM hT
  go_enter Try.func28, Try.ntmps28
  go_wp2_with fail
  have gb := gbox_new w 23 b p s n f
  have q1 := below_one w (.cells #[.int .i64 b, .int .i64 p, .int .i64 s, .int .i64 n, .int .i64 f] 23)
  generalize w.alloc (.cells #[.int .i64 b, .int .i64 p, .int .i64 s, .int .i64 n, .int .i64 f] 23) = w0 at *
  generalize hgg : w.heap.size = g at gb
  go_wp2_with fail
  refine held_begin (by kernel_rfl) ?_
  refine held_reads (rs := [0, 1, 2, 3]) (fuel := 4) (by kernel_rfl) (fun c d v a w h => by cases d <;> exact h) (by kernel_rfl) (Since.drew _) (fun K hK => ?_)
  refine calm_move _ rfl (by rfl) rfl ?_
  go_simp
  refine calm_do (.pointer (some ⟨g, 3, none⟩)) rfl (by rfl) (fun w' hw' => ?_) ?_
  · skip
    go_simp
  go_simp
  refine calm_do (.int .i64 n) rfl (by rfl) (fun w' hw' => ?_) ?_
  · have gb' := gb.below hw' (Nat.le_refl _)
    obtain ⟨_, c0, c1, c2, c3, c4⟩ := gb'
    go_simp
  go_simp
  refine calm_do (.agg #[.int .i64 b, .int .i64 p, .int .i64 s, .int .i64 n, .int .i64 f]) rfl (by rfl) (fun w' hw' => ?_) ?_
  · have gb' := gb.below hw' (Nat.le_refl _)
    obtain ⟨_, c0, c1, c2, c3, c4⟩ := gb'
    go_simp
  go_simp
  refine calm_nil (hK.out _ ?_)
  clear hK K
  refine held_call (i := 4) (fuel := 3) (by kernel_rfl) rfl (by rfl) (fun K hK => ?_)
  go_simp
  have qd := Since.drew w0
  replace gb := gb.below qd (Nat.le_refl _)
  replace q1 := btrans q1 qd
  clear qd
  refine (hmore _).mono ?_
  rintro e w1 ⟨rfl, qq0⟩
  refine hK _ _ (Since.trans (Since.drew _) qq0) ?_
  have qq : Since _ _ := qq0
  clear hK K qq0
  replace gb := gb.below qq (Nat.le_refl _)
  replace q1 := btrans q1 qq
  clear qq
  refine held_reads (rs := [5, 6, 7]) (fuel := 0) (by kernel_rfl) (fun c d v a w h => by cases d <;> exact h) (by kernel_rfl) (Since.refl _) (fun K hK => ?_)
  go_simp
  refine calm_do (.int .i64 W) rfl (by rfl) (fun w' hw' => ?_) ?_
  · skip
    go_simp
    rw [IntKind.wrap_i64]
    have := HW.out
    omega
  go_simp
  refine calm_do (.int .i64 F) rfl (by rfl) (fun w' hw' => ?_) ?_
  · skip
    go_simp
    rw [← Int.natCast_mul, HFF.out, IntKind.wrap_i64]
    omega
  go_simp
  refine calm_assign _ rfl (by rfl) rfl ?_
  go_simp
  refine calm_nil (hK.out _ ?_)
  clear hK K
  refine wpAnyH_done (by kernel_rfl) ?_ _
  have u1 : IntKind.i64.wrap ((F : Int) + (n : Int)) = (M : Int) := by rw [IntKind.wrap_i64]; have := HMM.out; omega
  have u2 : IntKind.i64.wrap ((M : Int) + (m : Int)) = (T : Int) := by rw [IntKind.wrap_i64]; have := HTT.out; omega
  have gb1 := gb
  obtain ⟨_, c0, c1, c2, c3, c4⟩ := gb1
  have v1 : (F : Int) + (n : Int) = (M : Int) := by have := HMM.out; omega
  have v2 : (M : Int) + (m : Int) = (T : Int) := by have := HTT.out; omega
  go_wp2_with fail
  refine (hmore _).mono ?_
  rintro e w2 ⟨rfl, q2⟩
  replace q1 := btrans q1 q2
  clear c0 c1 c2 c3 c4 q2 gb hmore
  have e1 : (F : Int) ≤ (M : Int) := by omega
  have e2 : (M : Int) ≤ (T : Int) := by omega
  have e3 : (T : Int) ≤ (cap : Int) := by omega
  have e4 : ¬ M = F := by omega
  have e5 : ¬ T = M := by omega
  have e6 : (M : Int) ≤ (cap : Int) := by omega
  go_wp2_with fail
  go_region
  all_goals (go_wp2; go_ret2; exact ⟨rfl, q1.drew⟩)
theorem cut_any (hB : HBitsC) {b p : Int} {s n f R m W L : Nat} (G : GOk b p s n f R m W L) {i : Nat} (hi : i < s) (rb off len cap : Nat) (hcap : L ≤ cap) (hmax : cap ≤ maxLen) (w : World) :
    Calls Try.prog 28 #[.agg #[.int .i64 b, .int .i64 p, .int .i64 ((s : Nat)), .int .i64 ((n : Nat)), .int .i64 ((f : Nat))], .slice (some ⟨rb, off, none⟩) len cap, .int .i64 i] w fun e w' => e = .returned (.tuple #[.slice (some ⟨rb, off + i * W, none⟩) n n, .slice (some ⟨rb, off + i * W + n, none⟩) m m]) ∧ Below w.heap.size w w' := by
  refine (cut_raw hB G hi rb off len cap hcap hmax (i * W) (i * W + n) (i * W + n + m) rfl rfl rfl w).mono ?_
  rintro e w1 ⟨h, q⟩
  rw [Nat.add_sub_cancel_left, Nat.add_sub_cancel_left, ← Nat.add_assoc] at h
  exact ⟨h, q⟩

end Go.Proofs.Ytaabgfameegomaa
