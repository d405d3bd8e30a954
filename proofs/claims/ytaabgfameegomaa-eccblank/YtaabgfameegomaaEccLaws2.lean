/-
  The walk of layer 6's law EccBlank, out of the code's contracts: it returns true; nothing old turns. (Written by tools/gen/ecc_law_blank.py.)
-/
import Derived.Test.YtaabgfameegomaaEccLaws
namespace Go.Proofs.Ytaabgfameegomaa
open Go.RowKit
set_option linter.unusedVariables false
set_option maxRecDepth 8192

/-- A page of ff, k bits of which are 0, from the bit P on. -/
def dimTo (L P : Nat) : Nat → List Int
  | 0 => List.replicate L 255
  | k + 1 => turn1 (dimTo L P k) (P + k)
theorem dim_facts (L P : Nat) : ∀ k, P + k ≤ 8 * L → (dimTo L P k).length = L ∧ IsB (dimTo L P k) ∧ ∀ q, q < 8 * L → bitI (dimTo L P k) q = if P ≤ q ∧ q < P + k then 0 else 1 := by
  intro k
  induction k with
  | zero =>
    intro _
    refine ⟨by simp [dimTo], isB_255 L, fun q hq => ?_⟩
    rw [if_neg (by omega)]
    show bitI (List.replicate L 255) q = 1
    unfold bitI
    rw [List.getElem?_replicate, if_pos (by omega)]
    rcases (show q % 8 = 0 ∨ q % 8 = 1 ∨ q % 8 = 2 ∨ q % 8 = 3 ∨ q % 8 = 4 ∨ q % 8 = 5 ∨ q % 8 = 6 ∨ q % 8 = 7 by omega) with e | e | e | e | e | e | e | e <;> rw [e] <;> decide
  | succ k ih =>
    intro h
    obtain ⟨h1, h2, h3⟩ := ih (by omega)
    refine ⟨by simp only [dimTo]; rw [length_turn1, h1], isB_turn1 h2 _, fun q hq => ?_⟩
    simp only [dimTo]
    rw [bitI_turn1 h2 (P + k) q (by omega) (by omega), h3 q hq]
    by_cases e : P + k = q
    · subst e
      rw [if_pos rfl, if_neg (by omega), if_pos (by omega)]
      rfl
    · rw [if_neg e]
      by_cases h4 : P ≤ q ∧ q < P + k
      · rw [if_pos h4, if_pos (by omega)]
      · rw [if_neg h4, if_neg (by omega)]
/-- A bit that is 1 is taken off. -/
theorem dim_step (L P k : Nat) (h : P + (k + 1) ≤ 8 * L) : dimTo L P (k + 1) = (dimTo L P k).set ((P + k) / 8) ((dimTo L P k)[(P + k) / 8]?.getD 0 - 2 ^ ((P + k) % 8)) ∧ 2 ^ ((P + k) % 8) ≤ (dimTo L P k)[(P + k) / 8]?.getD 0 ∧ (dimTo L P k)[(P + k) / 8]?.getD 0 ≤ 255 := by
  obtain ⟨h1, h2, h3⟩ := dim_facts L P k (by omega)
  have hb := h3 (P + k) (by omega)
  rw [if_neg (by omega)] at hb
  unfold bitI at hb
  have hm := h2 _ (mem_getD (dimTo L P k) ((P + k) / 8) (by rw [h1]; omega))
  refine ⟨?_, ?_, hm.2⟩
  · show turn1 _ _ = _
    unfold turn1 flipB
    rw [if_pos hb]
  · generalize (dimTo L P k)[(P + k) / 8]?.getD 0 = c at *
    unfold bitAt at hb
    have hp : (0 : Int) < 2 ^ ((P + k) % 8) := Int.pow_pos (by decide)
    by_cases h5 : c < 2 ^ ((P + k) % 8)
    · rw [Int.ediv_eq_zero_of_lt hm.1 h5] at hb
      exact absurd hb (by decide)
    · exact Int.not_lt.1 h5
theorem ones_gap (z : List Int) (u k n : Nat) (h : ∀ i, i < n → bitI z i = if u ≤ i ∧ i < u + k then 0 else 1) : ∀ j, j ≤ n → onesTo z j = (j : Int) - ((min j (u + k) : Nat) : Int) + ((min j u : Nat) : Int) := by
  intro j
  induction j with
  | zero => intro _; rw [onesTo_zero]; simp
  | succ j ih =>
    intro hj
    rw [onesTo_succ, ih (by omega), h j (by omega)]
    by_cases h4 : u ≤ j ∧ j < u + k
    · rw [if_pos h4]; omega
    · rw [if_neg h4]; omega
/-- The noughts of a page of which k bits of one sector are 0. -/
theorem dim_nou {s W L sec from_ k : Nat} (hL : s * W + 1 = L) (hs : sec < s) (hk : from_ + k ≤ 8 * W) (i : Nat) (hi : i < s) : nouN (dimTo L (8 * (sec * W) + from_) k) W i = if i = sec then (k : Int) else 0 := by
  have hle := at_le (W := W) hs
  have hli := at_le (W := W) hi
  obtain ⟨h1, h2, h3⟩ := dim_facts L (8 * (sec * W) + from_) k (by omega)
  unfold nouN
  by_cases e : i = sec
  · subst e
    rw [if_pos rfl, ones_gap _ from_ k (8 * W) (fun j hj => by
      rw [bitI_part _ _ _ _ hj, h3 _ (by omega)]
      by_cases h4 : from_ ≤ j ∧ j < from_ + k
      · rw [if_pos (by omega), if_pos h4]
      · rw [if_neg (by omega), if_neg h4]) (8 * W) (Nat.le_refl _)]
    omega
  · rw [if_neg e, ones_gap _ 0 0 (8 * W) (fun j hj => by
      rw [bitI_part _ _ _ _ hj, h3 _ (by omega), if_neg, if_neg (by omega)]
      rcases Nat.lt_or_ge i sec with h4 | h4
      · have := at_le (W := W) h4; omega
      · have := at_le (W := W) (show sec < i by omega); omega) (8 * W) (Nat.le_refl _)]
    omega
theorem dim_blank {s W L sec from_ k f : Nat} (hL : s * W + 1 = L) (hs : sec < s) (hk : from_ + k ≤ 8 * W) : blankTo f (dimTo L (8 * (sec * W) + from_) k) W s = decide (k ≤ f) := by
  by_cases h : k ≤ f
  · rw [decide_eq_true h, blankTo_iff]
    intro i hi
    rw [dim_nou hL hs hk i hi]
    split <;> omega
  · rw [decide_eq_false h]
    exact blankTo_no hs (by rw [dim_nou hL hs hk sec hs, if_pos rfl]; omega)
theorem dim_last {s W L sec from_ k : Nat} (hL : s * W + 1 = L) (hs : sec < s) (hk : from_ + k ≤ 8 * W) : (dimTo L (8 * (sec * W) + from_) k)[L - 1]?.getD 0 = 255 := by
  have hle := at_le (W := W) hs
  induction k with
  | zero => show (List.replicate L 255)[L - 1]?.getD 0 = 255; rw [List.getElem?_replicate, if_pos (by omega)]; rfl
  | succ k ih =>
    simp only [dimTo]
    unfold turn1
    rw [set_get, if_neg (by omega)]
    exact ih (by omega)

set_option maxHeartbeats 12800000 in
set_option maxRecDepth 100000 in
theorem walk_eccBlank (hB : HBitsC) (hE : HEncC) (hD : HDecC) (b p s n f : Int) (sc fr : Int) (w : World) (k1 : -9223372036854775808 ≤ sc) (k2 : sc ≤ 9223372036854775807) (k3 : -9223372036854775808 ≤ fr) (k4 : fr ≤ 9223372036854775807) :
    Calls Try.prog 7 #[.agg #[.int .i64 b, .int .i64 p, .int .i64 s, .int .i64 n, .int .i64 f], .int .i64 sc, .int .i64 fr] w fun e w' => e = .returned (.bool true) ∧ Below w.heap.size w w' := by
  cases hsm : small6 b p s n f
  case false =>
    go_enter Try.func7, Try.ntmps7
    go_wp2_with fail
    have gb := gbox_new w 23 b p s n f
    have q1 := below_one w (.cells #[.int .i64 b, .int .i64 p, .int .i64 s, .int .i64 n, .int .i64 f] 23)
    generalize w.alloc (.cells #[.int .i64 b, .int .i64 p, .int .i64 s, .int .i64 n, .int .i64 f] 23) = w0 at *
    generalize hgg : w.heap.size = g at gb
    go_wp2_with fail
    refine held_begin (by kernel_rfl) ?_
    refine held_reads (rs := [0]) (fuel := 31) (by kernel_rfl) (fun c d v a w h => by cases d <;> exact h) (by kernel_rfl) (Since.drew _) (fun K hK => ?_)
    refine calm_do (.agg #[.int .i64 b, .int .i64 p, .int .i64 s, .int .i64 n, .int .i64 f]) rfl (by rfl) (fun w' hw' => ?_) ?_
    · have gb' := gb.below hw' (Nat.le_refl _)
      obtain ⟨_, c0, c1, c2, c3, c4⟩ := gb'
      go_simp
    go_simp
    refine calm_nil (hK.out _ ?_)
    clear hK K
    refine held_call (i := 1) (fuel := 30) (by kernel_rfl) rfl (by rfl) (fun K hK => ?_)
    go_simp
    have qd := Since.drew w0
    replace gb := gb.below qd (Nat.le_refl _)
    replace q1 := btrans q1 qd
    clear qd
    refine (small6_any b p s n f _).mono ?_
    rintro e w1 ⟨rfl, qq0⟩
    refine hK _ _ (Since.trans (Since.drew _) qq0) ?_
    have qq : Since _ _ := qq0
    clear hK K qq0
    replace gb := gb.below qq (Nat.le_refl _)
    replace q1 := btrans q1 qq
    clear qq
    rw [hsm]
    refine held_reads (rs := [2, 3, 4, 5, 6, 7, 8, 9, 10, 11, 12, 13, 14, 15, 16, 17, 18, 19, 20, 21, 22, 23, 24, 25, 26, 27, 28, 29, 30, 31]) (fuel := 0) (by kernel_rfl) (fun c d v a w h => by cases d <;> exact h) (by kernel_rfl) (Since.refl _) (fun K hK => ?_)
    go_simp
    refine calm_do (.bool true) rfl (by rfl) (fun w' hw' => ?_) ?_
    · go_simp
    go_simp
    refine calm_move _ rfl (by rfl) rfl ?_
    go_simp
    refine calm_skip rfl (by rfl) ?_
    go_simp
    refine calm_skip rfl (by rfl) ?_
    go_simp
    refine calm_skip rfl (by rfl) ?_
    go_simp
    refine calm_do (.bool true) rfl (by rfl) (fun w' hw' => ?_) ?_
    · go_simp
    go_simp
    refine calm_move _ rfl (by rfl) rfl ?_
    go_simp
    refine calm_skip rfl (by rfl) ?_
    go_simp
    refine calm_skip rfl (by rfl) ?_
    go_simp
    refine calm_do (.bool true) rfl (by rfl) (fun w' hw' => ?_) ?_
    · go_simp
    go_simp
    refine calm_move _ rfl (by rfl) rfl ?_
    go_simp
    refine calm_skip rfl (by rfl) ?_
    go_simp
    refine calm_skip rfl (by rfl) ?_
    go_simp
    refine calm_skip rfl (by rfl) ?_
    go_simp
    refine calm_skip rfl (by rfl) ?_
    go_simp
    refine calm_do (.bool true) rfl (by rfl) (fun w' hw' => ?_) ?_
    · go_simp
    go_simp
    refine calm_move _ rfl (by rfl) rfl ?_
    go_simp
    refine calm_skip rfl (by rfl) ?_
    go_simp
    refine calm_skip rfl (by rfl) ?_
    go_simp
    refine calm_do (.bool true) rfl (by rfl) (fun w' hw' => ?_) ?_
    · go_simp
    go_simp
    refine calm_move _ rfl (by rfl) rfl ?_
    go_simp
    refine calm_skip rfl (by rfl) ?_
    go_simp
    refine calm_skip rfl (by rfl) ?_
    go_simp
    refine calm_skip rfl (by rfl) ?_
    go_simp
    refine calm_skip rfl (by rfl) ?_
    go_simp
    refine calm_skip rfl (by rfl) ?_
    go_simp
    refine calm_skip rfl (by rfl) ?_
    go_simp
    refine calm_skip rfl (by rfl) ?_
    go_simp
    refine calm_skip rfl (by rfl) ?_
    go_simp
    refine calm_do (.bool true) rfl (by rfl) (fun w' hw' => ?_) ?_
    · go_simp
    go_simp
    refine calm_nil (hK.out _ ?_)
    clear hK K
    refine wpAnyH_done (by kernel_rfl) ?_ _
    go_wp2_with fail
    go_ret
    exact ⟨rfl, q1⟩
  cases hmy : mayG b p s n f
  case false =>
    go_enter Try.func7, Try.ntmps7
    go_wp2_with fail
    have gb := gbox_new w 23 b p s n f
    have q1 := below_one w (.cells #[.int .i64 b, .int .i64 p, .int .i64 s, .int .i64 n, .int .i64 f] 23)
    generalize w.alloc (.cells #[.int .i64 b, .int .i64 p, .int .i64 s, .int .i64 n, .int .i64 f] 23) = w0 at *
    generalize hgg : w.heap.size = g at gb
    go_wp2_with fail
    refine held_begin (by kernel_rfl) ?_
    refine held_reads (rs := [0]) (fuel := 31) (by kernel_rfl) (fun c d v a w h => by cases d <;> exact h) (by kernel_rfl) (Since.drew _) (fun K hK => ?_)
    refine calm_do (.agg #[.int .i64 b, .int .i64 p, .int .i64 s, .int .i64 n, .int .i64 f]) rfl (by rfl) (fun w' hw' => ?_) ?_
    · have gb' := gb.below hw' (Nat.le_refl _)
      obtain ⟨_, c0, c1, c2, c3, c4⟩ := gb'
      go_simp
    go_simp
    refine calm_nil (hK.out _ ?_)
    clear hK K
    refine held_call (i := 1) (fuel := 30) (by kernel_rfl) rfl (by rfl) (fun K hK => ?_)
    go_simp
    have qd := Since.drew w0
    replace gb := gb.below qd (Nat.le_refl _)
    replace q1 := btrans q1 qd
    clear qd
    refine (small6_any b p s n f _).mono ?_
    rintro e w1 ⟨rfl, qq0⟩
    refine hK _ _ (Since.trans (Since.drew _) qq0) ?_
    have qq : Since _ _ := qq0
    clear hK K qq0
    replace gb := gb.below qq (Nat.le_refl _)
    replace q1 := btrans q1 qq
    clear qq
    rw [hsm]
    refine held_reads (rs := [2, 3, 4]) (fuel := 27) (by kernel_rfl) (fun c d v a w h => by cases d <;> exact h) (by kernel_rfl) (Since.refl _) (fun K hK => ?_)
    go_simp
    refine calm_do (.bool false) rfl (by rfl) (fun w' hw' => ?_) ?_
    · go_simp
    go_simp
    refine calm_move _ rfl (by rfl) rfl ?_
    go_simp
    refine calm_do (.agg #[.int .i64 b, .int .i64 p, .int .i64 s, .int .i64 n, .int .i64 f]) rfl (by rfl) (fun w' hw' => ?_) ?_
    · have gb' := gb.below hw' (Nat.le_refl _)
      obtain ⟨_, c0, c1, c2, c3, c4⟩ := gb'
      go_simp
    go_simp
    refine calm_nil (hK.out _ ?_)
    clear hK K
    refine held_call (i := 5) (fuel := 26) (by kernel_rfl) rfl (by rfl) (fun K hK => ?_)
    go_simp
    refine (refMay_any b p s n f _).mono ?_
    rintro e w2 ⟨rfl, qq0⟩
    refine hK _ _ (Since.trans (Since.refl _) qq0) ?_
    have qq : Since _ _ := qq0
    clear hK K qq0
    replace gb := gb.below qq (Nat.le_refl _)
    replace q1 := btrans q1 qq
    clear qq
    rw [hmy]
    refine held_reads (rs := [6, 7, 8, 9, 10, 11, 12, 13, 14, 15, 16, 17, 18, 19, 20, 21, 22, 23, 24, 25, 26, 27, 28, 29, 30, 31]) (fuel := 0) (by kernel_rfl) (fun c d v a w h => by cases d <;> exact h) (by kernel_rfl) (Since.refl _) (fun K hK => ?_)
    go_simp
    refine calm_do (.bool true) rfl (by rfl) (fun w' hw' => ?_) ?_
    · go_simp
    go_simp
    refine calm_do (.bool true) rfl (by rfl) (fun w' hw' => ?_) ?_
    · go_simp
    go_simp
    refine calm_move _ rfl (by rfl) rfl ?_
    go_simp
    refine calm_skip rfl (by rfl) ?_
    go_simp
    refine calm_skip rfl (by rfl) ?_
    go_simp
    refine calm_do (.bool true) rfl (by rfl) (fun w' hw' => ?_) ?_
    · go_simp
    go_simp
    refine calm_move _ rfl (by rfl) rfl ?_
    go_simp
    refine calm_skip rfl (by rfl) ?_
    go_simp
    refine calm_skip rfl (by rfl) ?_
    go_simp
    refine calm_skip rfl (by rfl) ?_
    go_simp
    refine calm_skip rfl (by rfl) ?_
    go_simp
    refine calm_do (.bool true) rfl (by rfl) (fun w' hw' => ?_) ?_
    · go_simp
    go_simp
    refine calm_move _ rfl (by rfl) rfl ?_
    go_simp
    refine calm_skip rfl (by rfl) ?_
    go_simp
    refine calm_skip rfl (by rfl) ?_
    go_simp
    refine calm_do (.bool true) rfl (by rfl) (fun w' hw' => ?_) ?_
    · go_simp
    go_simp
    refine calm_move _ rfl (by rfl) rfl ?_
    go_simp
    refine calm_skip rfl (by rfl) ?_
    go_simp
    refine calm_skip rfl (by rfl) ?_
    go_simp
    refine calm_skip rfl (by rfl) ?_
    go_simp
    refine calm_skip rfl (by rfl) ?_
    go_simp
    refine calm_skip rfl (by rfl) ?_
    go_simp
    refine calm_skip rfl (by rfl) ?_
    go_simp
    refine calm_skip rfl (by rfl) ?_
    go_simp
    refine calm_skip rfl (by rfl) ?_
    go_simp
    refine calm_do (.bool true) rfl (by rfl) (fun w' hw' => ?_) ?_
    · go_simp
    go_simp
    refine calm_nil (hK.out _ ?_)
    clear hK K
    refine wpAnyH_done (by kernel_rfl) ?_ _
    go_wp2_with fail
    go_ret
    exact ⟨rfl, q1⟩
  obtain ⟨s, n, f, R, m, W, L, rfl, rfl, rfl, G⟩ := gok_ex hmy (small6_may hsm hmy)
  have hwh := refWhole_any G
  have hraw := refRaw_any G
  have hW2 := G.W2
  have hs2 := G.hs
  have hf2 := G.hf
  have hL2 := G.L2
  have HL : Hid (s * W + 1 = L) := G.hL
  by_cases h3 : sc < 0
  case pos =>
    clear G
    go_enter Try.func7, Try.ntmps7
    go_wp2_with fail
    have gb := gbox_new w 23 b p s n f
    have q1 := below_one w (.cells #[.int .i64 b, .int .i64 p, .int .i64 s, .int .i64 n, .int .i64 f] 23)
    generalize w.alloc (.cells #[.int .i64 b, .int .i64 p, .int .i64 s, .int .i64 n, .int .i64 f] 23) = w0 at *
    generalize hgg : w.heap.size = g at gb
    go_wp2_with fail
    refine held_begin (by kernel_rfl) ?_
    refine held_reads (rs := [0]) (fuel := 31) (by kernel_rfl) (fun c d v a w h => by cases d <;> exact h) (by kernel_rfl) (Since.drew _) (fun K hK => ?_)
    refine calm_do (.agg #[.int .i64 b, .int .i64 p, .int .i64 s, .int .i64 n, .int .i64 f]) rfl (by rfl) (fun w' hw' => ?_) ?_
    · have gb' := gb.below hw' (Nat.le_refl _)
      obtain ⟨_, c0, c1, c2, c3, c4⟩ := gb'
      go_simp
    go_simp
    refine calm_nil (hK.out _ ?_)
    clear hK K
    refine held_call (i := 1) (fuel := 30) (by kernel_rfl) rfl (by rfl) (fun K hK => ?_)
    go_simp
    have qd := Since.drew w0
    replace gb := gb.below qd (Nat.le_refl _)
    replace q1 := btrans q1 qd
    clear qd
    refine (small6_any b p s n f _).mono ?_
    rintro e w1 ⟨rfl, qq0⟩
    refine hK _ _ (Since.trans (Since.drew _) qq0) ?_
    have qq : Since _ _ := qq0
    clear hK K qq0
    replace gb := gb.below qq (Nat.le_refl _)
    replace q1 := btrans q1 qq
    clear qq
    rw [hsm]
    refine held_reads (rs := [2, 3, 4]) (fuel := 27) (by kernel_rfl) (fun c d v a w h => by cases d <;> exact h) (by kernel_rfl) (Since.refl _) (fun K hK => ?_)
    go_simp
    refine calm_do (.bool false) rfl (by rfl) (fun w' hw' => ?_) ?_
    · go_simp
    go_simp
    refine calm_move _ rfl (by rfl) rfl ?_
    go_simp
    refine calm_do (.agg #[.int .i64 b, .int .i64 p, .int .i64 s, .int .i64 n, .int .i64 f]) rfl (by rfl) (fun w' hw' => ?_) ?_
    · have gb' := gb.below hw' (Nat.le_refl _)
      obtain ⟨_, c0, c1, c2, c3, c4⟩ := gb'
      go_simp
    go_simp
    refine calm_nil (hK.out _ ?_)
    clear hK K
    refine held_call (i := 5) (fuel := 26) (by kernel_rfl) rfl (by rfl) (fun K hK => ?_)
    go_simp
    refine (refMay_any b p s n f _).mono ?_
    rintro e w2 ⟨rfl, qq0⟩
    refine hK _ _ (Since.trans (Since.refl _) qq0) ?_
    have qq : Since _ _ := qq0
    clear hK K qq0
    replace gb := gb.below qq (Nat.le_refl _)
    replace q1 := btrans q1 qq
    clear qq
    rw [hmy]
    refine held_reads (rs := [6, 7, 8, 9, 10, 11, 12, 13, 14, 15, 16, 17, 18, 19, 20, 21, 22, 23, 24, 25, 26, 27, 28, 29, 30, 31]) (fuel := 0) (by kernel_rfl) (fun c d v a w h => by cases d <;> exact h) (by kernel_rfl) (Since.refl _) (fun K hK => ?_)
    go_simp
    refine calm_do (.bool false) rfl (by rfl) (fun w' hw' => ?_) ?_
    · go_simp
    go_simp
    refine calm_do (.bool false) rfl (by rfl) (fun w' hw' => ?_) ?_
    · go_simp
    go_simp
    refine calm_move _ rfl (by rfl) rfl ?_
    go_simp
    refine calm_move _ rfl (by rfl) rfl ?_
    go_simp
    refine calm_do (.bool true) rfl (by rfl) (fun w' hw' => ?_) ?_
    · go_simp
    go_simp
    refine calm_do (.bool true) rfl (by rfl) (fun w' hw' => ?_) ?_
    · go_simp
    go_simp
    refine calm_move _ rfl (by rfl) rfl ?_
    go_simp
    refine calm_skip rfl (by rfl) ?_
    go_simp
    refine calm_skip rfl (by rfl) ?_
    go_simp
    refine calm_skip rfl (by rfl) ?_
    go_simp
    refine calm_skip rfl (by rfl) ?_
    go_simp
    refine calm_do (.bool true) rfl (by rfl) (fun w' hw' => ?_) ?_
    · go_simp
    go_simp
    refine calm_move _ rfl (by rfl) rfl ?_
    go_simp
    refine calm_skip rfl (by rfl) ?_
    go_simp
    refine calm_skip rfl (by rfl) ?_
    go_simp
    refine calm_do (.bool true) rfl (by rfl) (fun w' hw' => ?_) ?_
    · go_simp
    go_simp
    refine calm_move _ rfl (by rfl) rfl ?_
    go_simp
    refine calm_skip rfl (by rfl) ?_
    go_simp
    refine calm_skip rfl (by rfl) ?_
    go_simp
    refine calm_skip rfl (by rfl) ?_
    go_simp
    refine calm_skip rfl (by rfl) ?_
    go_simp
    refine calm_skip rfl (by rfl) ?_
    go_simp
    refine calm_skip rfl (by rfl) ?_
    go_simp
    refine calm_skip rfl (by rfl) ?_
    go_simp
    refine calm_skip rfl (by rfl) ?_
    go_simp
    refine calm_do (.bool true) rfl (by rfl) (fun w' hw' => ?_) ?_
    · go_simp
    go_simp
    refine calm_nil (hK.out _ ?_)
    clear hK K
    refine wpAnyH_done (by kernel_rfl) ?_ _
    go_wp2_with fail
    go_ret
    exact ⟨rfl, q1⟩
  obtain ⟨sc, rfl⟩ := Int.eq_ofNat_of_zero_le (show 0 ≤ sc by omega)
  by_cases h4 : s ≤ sc
  case pos =>
    clear G
    have h4i : (s : Int) ≤ (sc : Int) := by omega
    go_enter Try.func7, Try.ntmps7
    go_wp2_with fail
    have gb := gbox_new w 23 b p s n f
    have q1 := below_one w (.cells #[.int .i64 b, .int .i64 p, .int .i64 s, .int .i64 n, .int .i64 f] 23)
    generalize w.alloc (.cells #[.int .i64 b, .int .i64 p, .int .i64 s, .int .i64 n, .int .i64 f] 23) = w0 at *
    generalize hgg : w.heap.size = g at gb
    go_wp2_with fail
    refine held_begin (by kernel_rfl) ?_
    refine held_reads (rs := [0]) (fuel := 31) (by kernel_rfl) (fun c d v a w h => by cases d <;> exact h) (by kernel_rfl) (Since.drew _) (fun K hK => ?_)
    refine calm_do (.agg #[.int .i64 b, .int .i64 p, .int .i64 s, .int .i64 n, .int .i64 f]) rfl (by rfl) (fun w' hw' => ?_) ?_
    · have gb' := gb.below hw' (Nat.le_refl _)
      obtain ⟨_, c0, c1, c2, c3, c4⟩ := gb'
      go_simp
    go_simp
    refine calm_nil (hK.out _ ?_)
    clear hK K
    refine held_call (i := 1) (fuel := 30) (by kernel_rfl) rfl (by rfl) (fun K hK => ?_)
    go_simp
    have qd := Since.drew w0
    replace gb := gb.below qd (Nat.le_refl _)
    replace q1 := btrans q1 qd
    clear qd
    refine (small6_any b p s n f _).mono ?_
    rintro e w1 ⟨rfl, qq0⟩
    refine hK _ _ (Since.trans (Since.drew _) qq0) ?_
    have qq : Since _ _ := qq0
    clear hK K qq0
    replace gb := gb.below qq (Nat.le_refl _)
    replace q1 := btrans q1 qq
    clear qq
    rw [hsm]
    refine held_reads (rs := [2, 3, 4]) (fuel := 27) (by kernel_rfl) (fun c d v a w h => by cases d <;> exact h) (by kernel_rfl) (Since.refl _) (fun K hK => ?_)
    go_simp
    refine calm_do (.bool false) rfl (by rfl) (fun w' hw' => ?_) ?_
    · go_simp
    go_simp
    refine calm_move _ rfl (by rfl) rfl ?_
    go_simp
    refine calm_do (.agg #[.int .i64 b, .int .i64 p, .int .i64 s, .int .i64 n, .int .i64 f]) rfl (by rfl) (fun w' hw' => ?_) ?_
    · have gb' := gb.below hw' (Nat.le_refl _)
      obtain ⟨_, c0, c1, c2, c3, c4⟩ := gb'
      go_simp
    go_simp
    refine calm_nil (hK.out _ ?_)
    clear hK K
    refine held_call (i := 5) (fuel := 26) (by kernel_rfl) rfl (by rfl) (fun K hK => ?_)
    go_simp
    refine (refMay_any b p s n f _).mono ?_
    rintro e w2 ⟨rfl, qq0⟩
    refine hK _ _ (Since.trans (Since.refl _) qq0) ?_
    have qq : Since _ _ := qq0
    clear hK K qq0
    replace gb := gb.below qq (Nat.le_refl _)
    replace q1 := btrans q1 qq
    clear qq
    rw [hmy]
    refine held_reads (rs := [6, 7, 8, 9, 10, 11, 12, 13, 14, 15, 16, 17, 18, 19, 20, 21, 22, 23, 24, 25, 26, 27, 28, 29, 30, 31]) (fuel := 0) (by kernel_rfl) (fun c d v a w h => by cases d <;> exact h) (by kernel_rfl) (Since.refl _) (fun K hK => ?_)
    go_simp
    refine calm_do (.bool false) rfl (by rfl) (fun w' hw' => ?_) ?_
    · go_simp
    go_simp
    refine calm_do (.bool false) rfl (by rfl) (fun w' hw' => ?_) ?_
    · go_simp
    go_simp
    refine calm_move _ rfl (by rfl) rfl ?_
    go_simp
    refine calm_move _ rfl (by rfl) rfl ?_
    go_simp
    refine calm_do (.bool false) rfl (by rfl) (fun w' hw' => ?_) ?_
    · go_simp
    go_simp
    refine calm_do (.bool false) rfl (by rfl) (fun w' hw' => ?_) ?_
    · go_simp
    go_simp
    refine calm_move _ rfl (by rfl) rfl ?_
    go_simp
    refine calm_move _ rfl (by rfl) rfl ?_
    go_simp
    refine calm_do (.pointer (some ⟨g, 2, none⟩)) rfl (by rfl) (fun w' hw' => ?_) ?_
    · skip
      go_simp
    go_simp
    refine calm_do (.int .i64 s) rfl (by rfl) (fun w' hw' => ?_) ?_
    · have gb' := gb.below hw' (Nat.le_refl _)
      obtain ⟨_, c0, c1, c2, c3, c4⟩ := gb'
      go_simp
    go_simp
    refine calm_do (.bool true) rfl (by rfl) (fun w' hw' => ?_) ?_
    · go_simp
    go_simp
    refine calm_do (.bool true) rfl (by rfl) (fun w' hw' => ?_) ?_
    · go_simp
    go_simp
    refine calm_move _ rfl (by rfl) rfl ?_
    go_simp
    refine calm_skip rfl (by rfl) ?_
    go_simp
    refine calm_skip rfl (by rfl) ?_
    go_simp
    refine calm_do (.bool true) rfl (by rfl) (fun w' hw' => ?_) ?_
    · go_simp
    go_simp
    refine calm_move _ rfl (by rfl) rfl ?_
    go_simp
    refine calm_skip rfl (by rfl) ?_
    go_simp
    refine calm_skip rfl (by rfl) ?_
    go_simp
    refine calm_skip rfl (by rfl) ?_
    go_simp
    refine calm_skip rfl (by rfl) ?_
    go_simp
    refine calm_skip rfl (by rfl) ?_
    go_simp
    refine calm_skip rfl (by rfl) ?_
    go_simp
    refine calm_skip rfl (by rfl) ?_
    go_simp
    refine calm_skip rfl (by rfl) ?_
    go_simp
    refine calm_do (.bool true) rfl (by rfl) (fun w' hw' => ?_) ?_
    · go_simp
    go_simp
    refine calm_nil (hK.out _ ?_)
    clear hK K
    refine wpAnyH_done (by kernel_rfl) ?_ _
    go_wp2_with fail
    go_ret
    exact ⟨rfl, q1⟩
  have h4i : ¬ (s : Int) ≤ (sc : Int) := by omega
  by_cases h5 : fr < 0
  case pos =>
    clear G
    go_enter Try.func7, Try.ntmps7
    go_wp2_with fail
    have gb := gbox_new w 23 b p s n f
    have q1 := below_one w (.cells #[.int .i64 b, .int .i64 p, .int .i64 s, .int .i64 n, .int .i64 f] 23)
    generalize w.alloc (.cells #[.int .i64 b, .int .i64 p, .int .i64 s, .int .i64 n, .int .i64 f] 23) = w0 at *
    generalize hgg : w.heap.size = g at gb
    go_wp2_with fail
    refine held_begin (by kernel_rfl) ?_
    refine held_reads (rs := [0]) (fuel := 31) (by kernel_rfl) (fun c d v a w h => by cases d <;> exact h) (by kernel_rfl) (Since.drew _) (fun K hK => ?_)
    refine calm_do (.agg #[.int .i64 b, .int .i64 p, .int .i64 s, .int .i64 n, .int .i64 f]) rfl (by rfl) (fun w' hw' => ?_) ?_
    · have gb' := gb.below hw' (Nat.le_refl _)
      obtain ⟨_, c0, c1, c2, c3, c4⟩ := gb'
      go_simp
    go_simp
    refine calm_nil (hK.out _ ?_)
    clear hK K
    refine held_call (i := 1) (fuel := 30) (by kernel_rfl) rfl (by rfl) (fun K hK => ?_)
    go_simp
    have qd := Since.drew w0
    replace gb := gb.below qd (Nat.le_refl _)
    replace q1 := btrans q1 qd
    clear qd
    refine (small6_any b p s n f _).mono ?_
    rintro e w1 ⟨rfl, qq0⟩
    refine hK _ _ (Since.trans (Since.drew _) qq0) ?_
    have qq : Since _ _ := qq0
    clear hK K qq0
    replace gb := gb.below qq (Nat.le_refl _)
    replace q1 := btrans q1 qq
    clear qq
    rw [hsm]
    refine held_reads (rs := [2, 3, 4]) (fuel := 27) (by kernel_rfl) (fun c d v a w h => by cases d <;> exact h) (by kernel_rfl) (Since.refl _) (fun K hK => ?_)
    go_simp
    refine calm_do (.bool false) rfl (by rfl) (fun w' hw' => ?_) ?_
    · go_simp
    go_simp
    refine calm_move _ rfl (by rfl) rfl ?_
    go_simp
    refine calm_do (.agg #[.int .i64 b, .int .i64 p, .int .i64 s, .int .i64 n, .int .i64 f]) rfl (by rfl) (fun w' hw' => ?_) ?_
    · have gb' := gb.below hw' (Nat.le_refl _)
      obtain ⟨_, c0, c1, c2, c3, c4⟩ := gb'
      go_simp
    go_simp
    refine calm_nil (hK.out _ ?_)
    clear hK K
    refine held_call (i := 5) (fuel := 26) (by kernel_rfl) rfl (by rfl) (fun K hK => ?_)
    go_simp
    refine (refMay_any b p s n f _).mono ?_
    rintro e w2 ⟨rfl, qq0⟩
    refine hK _ _ (Since.trans (Since.refl _) qq0) ?_
    have qq : Since _ _ := qq0
    clear hK K qq0
    replace gb := gb.below qq (Nat.le_refl _)
    replace q1 := btrans q1 qq
    clear qq
    rw [hmy]
    refine held_reads (rs := [6, 7, 8, 9, 10, 11, 12, 13, 14, 15, 16, 17, 18, 19, 20, 21, 22, 23, 24, 25, 26, 27, 28, 29, 30, 31]) (fuel := 0) (by kernel_rfl) (fun c d v a w h => by cases d <;> exact h) (by kernel_rfl) (Since.refl _) (fun K hK => ?_)
    go_simp
    refine calm_do (.bool false) rfl (by rfl) (fun w' hw' => ?_) ?_
    · go_simp
    go_simp
    refine calm_do (.bool false) rfl (by rfl) (fun w' hw' => ?_) ?_
    · go_simp
    go_simp
    refine calm_move _ rfl (by rfl) rfl ?_
    go_simp
    refine calm_move _ rfl (by rfl) rfl ?_
    go_simp
    refine calm_do (.bool false) rfl (by rfl) (fun w' hw' => ?_) ?_
    · go_simp
    go_simp
    refine calm_do (.bool false) rfl (by rfl) (fun w' hw' => ?_) ?_
    · go_simp
    go_simp
    refine calm_move _ rfl (by rfl) rfl ?_
    go_simp
    refine calm_move _ rfl (by rfl) rfl ?_
    go_simp
    refine calm_do (.pointer (some ⟨g, 2, none⟩)) rfl (by rfl) (fun w' hw' => ?_) ?_
    · skip
      go_simp
    go_simp
    refine calm_do (.int .i64 s) rfl (by rfl) (fun w' hw' => ?_) ?_
    · have gb' := gb.below hw' (Nat.le_refl _)
      obtain ⟨_, c0, c1, c2, c3, c4⟩ := gb'
      go_simp
    go_simp
    refine calm_do (.bool false) rfl (by rfl) (fun w' hw' => ?_) ?_
    · go_simp
    go_simp
    refine calm_do (.bool false) rfl (by rfl) (fun w' hw' => ?_) ?_
    · go_simp
    go_simp
    refine calm_move _ rfl (by rfl) rfl ?_
    go_simp
    refine calm_move _ rfl (by rfl) rfl ?_
    go_simp
    refine calm_do (.bool true) rfl (by rfl) (fun w' hw' => ?_) ?_
    · go_simp
    go_simp
    refine calm_do (.bool true) rfl (by rfl) (fun w' hw' => ?_) ?_
    · go_simp
    go_simp
    refine calm_move _ rfl (by rfl) rfl ?_
    go_simp
    refine calm_skip rfl (by rfl) ?_
    go_simp
    refine calm_skip rfl (by rfl) ?_
    go_simp
    refine calm_skip rfl (by rfl) ?_
    go_simp
    refine calm_skip rfl (by rfl) ?_
    go_simp
    refine calm_skip rfl (by rfl) ?_
    go_simp
    refine calm_skip rfl (by rfl) ?_
    go_simp
    refine calm_skip rfl (by rfl) ?_
    go_simp
    refine calm_skip rfl (by rfl) ?_
    go_simp
    refine calm_do (.bool true) rfl (by rfl) (fun w' hw' => ?_) ?_
    · go_simp
    go_simp
    refine calm_nil (hK.out _ ?_)
    clear hK K
    refine wpAnyH_done (by kernel_rfl) ?_ _
    go_wp2_with fail
    go_ret
    exact ⟨rfl, q1⟩
  obtain ⟨fr, rfl⟩ := Int.eq_ofNat_of_zero_le (show 0 ≤ fr by omega)
  by_cases h6 : 8 * (W : Int) - (f : Int) ≤ (fr : Int)
  case pos =>
    clear G
    go_enter Try.func7, Try.ntmps7
    go_wp2_with fail
    have gb := gbox_new w 23 b p s n f
    have q1 := below_one w (.cells #[.int .i64 b, .int .i64 p, .int .i64 s, .int .i64 n, .int .i64 f] 23)
    generalize w.alloc (.cells #[.int .i64 b, .int .i64 p, .int .i64 s, .int .i64 n, .int .i64 f] 23) = w0 at *
    generalize hgg : w.heap.size = g at gb
    go_wp2_with fail
    refine held_begin (by kernel_rfl) ?_
    refine held_reads (rs := [0]) (fuel := 31) (by kernel_rfl) (fun c d v a w h => by cases d <;> exact h) (by kernel_rfl) (Since.drew _) (fun K hK => ?_)
    refine calm_do (.agg #[.int .i64 b, .int .i64 p, .int .i64 s, .int .i64 n, .int .i64 f]) rfl (by rfl) (fun w' hw' => ?_) ?_
    · have gb' := gb.below hw' (Nat.le_refl _)
      obtain ⟨_, c0, c1, c2, c3, c4⟩ := gb'
      go_simp
    go_simp
    refine calm_nil (hK.out _ ?_)
    clear hK K
    refine held_call (i := 1) (fuel := 30) (by kernel_rfl) rfl (by rfl) (fun K hK => ?_)
    go_simp
    have qd := Since.drew w0
    replace gb := gb.below qd (Nat.le_refl _)
    replace q1 := btrans q1 qd
    clear qd
    refine (small6_any b p s n f _).mono ?_
    rintro e w1 ⟨rfl, qq0⟩
    refine hK _ _ (Since.trans (Since.drew _) qq0) ?_
    have qq : Since _ _ := qq0
    clear hK K qq0
    replace gb := gb.below qq (Nat.le_refl _)
    replace q1 := btrans q1 qq
    clear qq
    rw [hsm]
    refine held_reads (rs := [2, 3, 4]) (fuel := 27) (by kernel_rfl) (fun c d v a w h => by cases d <;> exact h) (by kernel_rfl) (Since.refl _) (fun K hK => ?_)
    go_simp
    refine calm_do (.bool false) rfl (by rfl) (fun w' hw' => ?_) ?_
    · go_simp
    go_simp
    refine calm_move _ rfl (by rfl) rfl ?_
    go_simp
    refine calm_do (.agg #[.int .i64 b, .int .i64 p, .int .i64 s, .int .i64 n, .int .i64 f]) rfl (by rfl) (fun w' hw' => ?_) ?_
    · have gb' := gb.below hw' (Nat.le_refl _)
      obtain ⟨_, c0, c1, c2, c3, c4⟩ := gb'
      go_simp
    go_simp
    refine calm_nil (hK.out _ ?_)
    clear hK K
    refine held_call (i := 5) (fuel := 26) (by kernel_rfl) rfl (by rfl) (fun K hK => ?_)
    go_simp
    refine (refMay_any b p s n f _).mono ?_
    rintro e w2 ⟨rfl, qq0⟩
    refine hK _ _ (Since.trans (Since.refl _) qq0) ?_
    have qq : Since _ _ := qq0
    clear hK K qq0
    replace gb := gb.below qq (Nat.le_refl _)
    replace q1 := btrans q1 qq
    clear qq
    rw [hmy]
    refine held_reads (rs := [6, 7, 8, 9, 10, 11, 12, 13, 14, 15, 16, 17, 18, 19, 20, 21, 22, 23, 24, 27, 28]) (fuel := 5) (by kernel_rfl) (fun c d v a w h => by cases d <;> exact h) (by kernel_rfl) (Since.refl _) (fun K hK => ?_)
    go_simp
    refine calm_do (.bool false) rfl (by rfl) (fun w' hw' => ?_) ?_
    · go_simp
    go_simp
    refine calm_do (.bool false) rfl (by rfl) (fun w' hw' => ?_) ?_
    · go_simp
    go_simp
    refine calm_move _ rfl (by rfl) rfl ?_
    go_simp
    refine calm_move _ rfl (by rfl) rfl ?_
    go_simp
    refine calm_do (.bool false) rfl (by rfl) (fun w' hw' => ?_) ?_
    · go_simp
    go_simp
    refine calm_do (.bool false) rfl (by rfl) (fun w' hw' => ?_) ?_
    · go_simp
    go_simp
    refine calm_move _ rfl (by rfl) rfl ?_
    go_simp
    refine calm_move _ rfl (by rfl) rfl ?_
    go_simp
    refine calm_do (.pointer (some ⟨g, 2, none⟩)) rfl (by rfl) (fun w' hw' => ?_) ?_
    · skip
      go_simp
    go_simp
    refine calm_do (.int .i64 s) rfl (by rfl) (fun w' hw' => ?_) ?_
    · have gb' := gb.below hw' (Nat.le_refl _)
      obtain ⟨_, c0, c1, c2, c3, c4⟩ := gb'
      go_simp
    go_simp
    refine calm_do (.bool false) rfl (by rfl) (fun w' hw' => ?_) ?_
    · go_simp
    go_simp
    refine calm_do (.bool false) rfl (by rfl) (fun w' hw' => ?_) ?_
    · go_simp
    go_simp
    refine calm_move _ rfl (by rfl) rfl ?_
    go_simp
    refine calm_move _ rfl (by rfl) rfl ?_
    go_simp
    refine calm_do (.bool false) rfl (by rfl) (fun w' hw' => ?_) ?_
    · go_simp
    go_simp
    refine calm_do (.bool false) rfl (by rfl) (fun w' hw' => ?_) ?_
    · go_simp
    go_simp
    refine calm_move _ rfl (by rfl) rfl ?_
    go_simp
    refine calm_move _ rfl (by rfl) rfl ?_
    go_simp
    refine calm_do (.agg #[.int .i64 b, .int .i64 p, .int .i64 s, .int .i64 n, .int .i64 f]) rfl (by rfl) (fun w' hw' => ?_) ?_
    · have gb' := gb.below hw' (Nat.le_refl _)
      obtain ⟨_, c0, c1, c2, c3, c4⟩ := gb'
      go_simp
    go_simp
    refine calm_do (.pointer (some ⟨g, 4, none⟩)) rfl (by rfl) (fun w' hw' => ?_) ?_
    · skip
      go_simp
    go_simp
    refine calm_do (.int .i64 f) rfl (by rfl) (fun w' hw' => ?_) ?_
    · have gb' := gb.below hw' (Nat.le_refl _)
      obtain ⟨_, c0, c1, c2, c3, c4⟩ := gb'
      go_simp
    go_simp
    refine calm_nil (hK.out _ ?_)
    clear hK K
    refine held_call (i := 25) (fuel := 4) (by kernel_rfl) rfl (by rfl) (fun K hK => ?_)
    go_simp
    refine (hwh _).mono ?_
    rintro e w3 ⟨rfl, qq0⟩
    refine hK _ _ (Since.trans (Since.refl _) qq0) ?_
    have qq : Since _ _ := qq0
    clear hK K qq0
    replace gb := gb.below qq (Nat.le_refl _)
    replace q1 := btrans q1 qq
    clear qq
    refine held_reads (rs := [26, 29, 30, 31]) (fuel := 0) (by kernel_rfl) (fun c d v a w h => by cases d <;> exact h) (by kernel_rfl) (Since.refl _) (fun K hK => ?_)
    go_simp
    refine calm_do (.int .i64 (8 * (W : Int))) rfl (by rfl) (fun w' hw' => ?_) ?_
    · skip
      go_simp
      all_goals (rw [IntKind.wrap_i64]; omega)
    go_simp
    refine calm_do (.int .i64 (8 * (W : Int) - (f : Int))) rfl (by rfl) (fun w' hw' => ?_) ?_
    · skip
      go_simp
      all_goals (rw [IntKind.wrap_i64]; omega)
    go_simp
    refine calm_do (.bool true) rfl (by rfl) (fun w' hw' => ?_) ?_
    · go_simp
    go_simp
    refine calm_do (.bool true) rfl (by rfl) (fun w' hw' => ?_) ?_
    · go_simp
    go_simp
    refine calm_nil (hK.out _ ?_)
    clear hK K
    refine wpAnyH_done (by kernel_rfl) ?_ _
    go_wp2_with fail
    go_ret
    exact ⟨rfl, q1⟩
  have hun := fun (z : List Int) (w : World) (gr : Nat) (r : Row .u8 w (some ⟨gr, 0, none⟩) L L z) (bz : IsB z) => eccUnpack_mark hB G (some ⟨gr, 0, none⟩) L z w r bz
  clear G
  go_enter Try.func7, Try.ntmps7
  go_wp2_with fail
  have gb := gbox_new w 23 b p s n f
  have q1 := below_one w (.cells #[.int .i64 b, .int .i64 p, .int .i64 s, .int .i64 n, .int .i64 f] 23)
  generalize w.alloc (.cells #[.int .i64 b, .int .i64 p, .int .i64 s, .int .i64 n, .int .i64 f] 23) = w0 at *
  generalize hgg : w.heap.size = g at gb
  go_wp2_with fail
  refine held_begin (by kernel_rfl) ?_
  refine held_reads (rs := [0]) (fuel := 31) (by kernel_rfl) (fun c d v a w h => by cases d <;> exact h) (by kernel_rfl) (Since.drew _) (fun K hK => ?_)
  refine calm_do (.agg #[.int .i64 b, .int .i64 p, .int .i64 s, .int .i64 n, .int .i64 f]) rfl (by rfl) (fun w' hw' => ?_) ?_
  · have gb' := gb.below hw' (Nat.le_refl _)
    obtain ⟨_, c0, c1, c2, c3, c4⟩ := gb'
    go_simp
  go_simp
  refine calm_nil (hK.out _ ?_)
  clear hK K
  refine held_call (i := 1) (fuel := 30) (by kernel_rfl) rfl (by rfl) (fun K hK => ?_)
  go_simp
  have qd := Since.drew w0
  replace gb := gb.below qd (Nat.le_refl _)
  replace q1 := btrans q1 qd
  clear qd
  refine (small6_any b p s n f _).mono ?_
  rintro e w1 ⟨rfl, qq0⟩
  refine hK _ _ (Since.trans (Since.drew _) qq0) ?_
  have qq : Since _ _ := qq0
  clear hK K qq0
  replace gb := gb.below qq (Nat.le_refl _)
  replace q1 := btrans q1 qq
  clear qq
  rw [hsm]
  refine held_reads (rs := [2, 3, 4]) (fuel := 27) (by kernel_rfl) (fun c d v a w h => by cases d <;> exact h) (by kernel_rfl) (Since.refl _) (fun K hK => ?_)
  go_simp
  refine calm_do (.bool false) rfl (by rfl) (fun w' hw' => ?_) ?_
  · go_simp
  go_simp
  refine calm_move _ rfl (by rfl) rfl ?_
  go_simp
  refine calm_do (.agg #[.int .i64 b, .int .i64 p, .int .i64 s, .int .i64 n, .int .i64 f]) rfl (by rfl) (fun w' hw' => ?_) ?_
  · have gb' := gb.below hw' (Nat.le_refl _)
    obtain ⟨_, c0, c1, c2, c3, c4⟩ := gb'
    go_simp
  go_simp
  refine calm_nil (hK.out _ ?_)
  clear hK K
  refine held_call (i := 5) (fuel := 26) (by kernel_rfl) rfl (by rfl) (fun K hK => ?_)
  go_simp
  refine (refMay_any b p s n f _).mono ?_
  rintro e w2 ⟨rfl, qq0⟩
  refine hK _ _ (Since.trans (Since.refl _) qq0) ?_
  have qq : Since _ _ := qq0
  clear hK K qq0
  replace gb := gb.below qq (Nat.le_refl _)
  replace q1 := btrans q1 qq
  clear qq
  rw [hmy]
  refine held_reads (rs := [6, 7, 8, 9, 10, 11, 12, 13, 14, 15, 16, 17, 18, 19, 20, 21, 22, 23, 24, 27, 28]) (fuel := 5) (by kernel_rfl) (fun c d v a w h => by cases d <;> exact h) (by kernel_rfl) (Since.refl _) (fun K hK => ?_)
  go_simp
  refine calm_do (.bool false) rfl (by rfl) (fun w' hw' => ?_) ?_
  · go_simp
  go_simp
  refine calm_do (.bool false) rfl (by rfl) (fun w' hw' => ?_) ?_
  · go_simp
  go_simp
  refine calm_move _ rfl (by rfl) rfl ?_
  go_simp
  refine calm_move _ rfl (by rfl) rfl ?_
  go_simp
  refine calm_do (.bool false) rfl (by rfl) (fun w' hw' => ?_) ?_
  · go_simp
  go_simp
  refine calm_do (.bool false) rfl (by rfl) (fun w' hw' => ?_) ?_
  · go_simp
  go_simp
  refine calm_move _ rfl (by rfl) rfl ?_
  go_simp
  refine calm_move _ rfl (by rfl) rfl ?_
  go_simp
  refine calm_do (.pointer (some ⟨g, 2, none⟩)) rfl (by rfl) (fun w' hw' => ?_) ?_
  · skip
    go_simp
  go_simp
  refine calm_do (.int .i64 s) rfl (by rfl) (fun w' hw' => ?_) ?_
  · have gb' := gb.below hw' (Nat.le_refl _)
    obtain ⟨_, c0, c1, c2, c3, c4⟩ := gb'
    go_simp
  go_simp
  refine calm_do (.bool false) rfl (by rfl) (fun w' hw' => ?_) ?_
  · go_simp
  go_simp
  refine calm_do (.bool false) rfl (by rfl) (fun w' hw' => ?_) ?_
  · go_simp
  go_simp
  refine calm_move _ rfl (by rfl) rfl ?_
  go_simp
  refine calm_move _ rfl (by rfl) rfl ?_
  go_simp
  refine calm_do (.bool false) rfl (by rfl) (fun w' hw' => ?_) ?_
  · go_simp
  go_simp
  refine calm_do (.bool false) rfl (by rfl) (fun w' hw' => ?_) ?_
  · go_simp
  go_simp
  refine calm_move _ rfl (by rfl) rfl ?_
  go_simp
  refine calm_move _ rfl (by rfl) rfl ?_
  go_simp
  refine calm_do (.agg #[.int .i64 b, .int .i64 p, .int .i64 s, .int .i64 n, .int .i64 f]) rfl (by rfl) (fun w' hw' => ?_) ?_
  · have gb' := gb.below hw' (Nat.le_refl _)
    obtain ⟨_, c0, c1, c2, c3, c4⟩ := gb'
    go_simp
  go_simp
  refine calm_do (.pointer (some ⟨g, 4, none⟩)) rfl (by rfl) (fun w' hw' => ?_) ?_
  · skip
    go_simp
  go_simp
  refine calm_do (.int .i64 f) rfl (by rfl) (fun w' hw' => ?_) ?_
  · have gb' := gb.below hw' (Nat.le_refl _)
    obtain ⟨_, c0, c1, c2, c3, c4⟩ := gb'
    go_simp
  go_simp
  refine calm_nil (hK.out _ ?_)
  clear hK K
  refine held_call (i := 25) (fuel := 4) (by kernel_rfl) rfl (by rfl) (fun K hK => ?_)
  go_simp
  refine (hwh _).mono ?_
  rintro e w3 ⟨rfl, qq0⟩
  refine hK _ _ (Since.trans (Since.refl _) qq0) ?_
  have qq : Since _ _ := qq0
  clear hK K qq0
  replace gb := gb.below qq (Nat.le_refl _)
  replace q1 := btrans q1 qq
  clear qq
  refine held_reads (rs := [26, 29, 30, 31]) (fuel := 0) (by kernel_rfl) (fun c d v a w h => by cases d <;> exact h) (by kernel_rfl) (Since.refl _) (fun K hK => ?_)
  go_simp
  refine calm_do (.int .i64 (8 * (W : Int))) rfl (by rfl) (fun w' hw' => ?_) ?_
  · skip
    go_simp
    all_goals (rw [IntKind.wrap_i64]; omega)
  go_simp
  refine calm_do (.int .i64 (8 * (W : Int) - (f : Int))) rfl (by rfl) (fun w' hw' => ?_) ?_
  · skip
    go_simp
    all_goals (rw [IntKind.wrap_i64]; omega)
  go_simp
  refine calm_do (.bool false) rfl (by rfl) (fun w' hw' => ?_) ?_
  · go_simp
  go_simp
  refine calm_do (.bool false) rfl (by rfl) (fun w' hw' => ?_) ?_
  · go_simp
  go_simp
  refine calm_nil (hK.out _ ?_)
  clear hK K
  refine wpAnyH_done (by kernel_rfl) ?_ _
  clear hsm hmy
  have gb_ := gb
  obtain ⟨_, c0, c1, c2, c3, c4⟩ := gb_
  go_wp2_with fail
  clear c0 c1 c2 c3 c4
  refine (hraw _).mono ?_
  rintro e w4 ⟨rfl, qq⟩
  replace gb := gb.below qq (Nat.le_refl _)
  replace q1 := btrans q1 qq
  clear qq hraw
  obtain ⟨w5, hrun, own, qb⟩ := makeZ L (L : Int) rfl (by omega) w4
  have HFS : Hid (∀ i, i < L → (splice (List.replicate L 0) 0 (List.replicate (i - 0) 255)).set i 255 = splice (List.replicate L 0) 0 (List.replicate (i + 1 - 0) 255)) := fun i hi => fill_step (Nat.zero_le _) (by simpa using hi)
  have HF0 : Hid (splice (List.replicate L 0) 0 (List.replicate (0 - 0) 255) = List.replicate L 0) := fill_start _ 0 (Nat.zero_le _)
  have HFA : Hid (splice (List.replicate L 0) 0 (List.replicate (L - 0) 255) = List.replicate L 255) := fill_all L
  obtain ⟨PW, hPW⟩ : ∃ PW, sc * W = PW := ⟨_, rfl⟩
  have HPW : Hid (sc * W = PW) := hPW
  clear hPW
  have hle := at_le (W := W) (show sc < s by omega)
  rw [HPW.out] at hle
  have hPL : 8 * PW + fr + (f + 1) ≤ 8 * L := by have := HL.out; omega
  have hPL1 : 8 * PW + 8 * W + 8 ≤ 8 * L := by have := HL.out; omega
  clear hle
  have HDB : Hid (∀ k, k ≤ f + 1 → blankTo f (dimTo L (8 * PW + fr) k) W s = decide (k ≤ f) ∧ (dimTo L (8 * PW + fr) k)[L - 1]?.getD 0 = 255) := fun k hk => by
    rw [← HPW.out]
    exact ⟨dim_blank HL.out (by omega) (by omega), dim_last HL.out (by omega) (by omega)⟩
  have HDF : Hid (∀ k, k ≤ f + 1 → IsB (dimTo L (8 * PW + fr) k)) := fun k hk => (dim_facts L _ k (by omega)).2.1
  have HDS : Hid (∀ k, k ≤ f → _) := fun k hk => dim_step L (8 * PW + fr) k (by omega)
  have HD0 : Hid (dimTo L (8 * PW + fr) 0 = List.replicate L 255) := rfl
  have HUI : Hid (8 * (sc : Int) * (W : Int) = 8 * (PW : Int)) := by show _ = _; rw [Int.mul_assoc, ← Int.natCast_mul, HPW.out]
  generalize hgx : w4.heap.size = gr at *
  go_wp2_with fail
  clear hrun
  go_loopw [8] (fun y wr => ∃ i : Nat, i ≤ L ∧ y = .int .i64 i ∧ wr.ownsRow gr 5 1 (.slice (some ⟨gr, 0, none⟩) L L) L ((splice (List.replicate L 0) 0 (List.replicate (i - 0) 255)).map (Value.int .u8)) ∧ Below gr w4 wr) (fun y _ => L - (intOf y).toNat)
  case atStart => exact ⟨0, Nat.zero_le _, rfl, by rw [HF0.out]; exact own, qb⟩
  case round =>
    clear own qb HF0
    obtain ⟨i, hi, rfl, own, qb⟩ := hrel
    by_cases hlt : i < L
    case pos =>
      have hcl := owned_cell own i hlt
      have hfz := own.frozenAt i
      have R := owned_set (q := i) (x := 255) (Nat.le_refl _) own qb
      rw [HFS.out i hlt] at R
      have HR : Hid _ := R
      clear R own qb HDB HDS HDF
      generalize (splice (List.replicate L 0) 0 (List.replicate (i - 0) 255))[i]?.getD 0 = zi at hcl
      have u5 : (i : Int) < (L : Int) := by omega
      go_wp2_with fail
      go_roundw
      case rel => exact ⟨i + 1, by omega, by go_num, HR.out.1, HR.out.2⟩
      case measure => simp [intOf]; omega
    have e : i = L := by omega
    subst e
    rw [HFA.out, ← HD0.out] at own
    clear HFS HFA hlt hi HD0
    go_wp2_with fail
    go_loopw [9] (fun y wr => ∃ k : Nat, k ≤ f + 1 ∧ y = .int .i64 k ∧ wr.ownsRow gr 5 1 (.slice (some ⟨gr, 0, none⟩) i i) i ((dimTo i (8 * PW + fr) k).map (Value.int .u8)) ∧ Below gr w4 wr) (fun y _ => f + 1 - (intOf y).toNat)
    case atStart => exact ⟨0, Nat.zero_le _, rfl, own, qb⟩
    case round =>
      clear own qb
      obtain ⟨k, hk, rfl, own, qb⟩ := hrel
      have rz := isB_of_row own
      have hzB := HDF.out k hk
      obtain ⟨hb1, hb2⟩ := HDB.out k hk
      have hgw := qb.size
      rw [hgx] at hgw
      by_cases hlt : k ≤ f
      case pos =>
        have hu := hun _ _ gr rz hzB (by rw [hb2]; decide) 61 (by show _ = _; rw [hb1, hb2]; simp [hlt])
        obtain ⟨d1, d2, d3⟩ := HDS.out k hlt
        clear hun HDB HDF HDS hb1 hb2
        have u5 : (k : Int) ≤ (f : Int) := by omega
        have HD1 : Hid _ := d1
        clear d1
        have gb_ := gb.below qb (by rw [hgx]; exact Nat.le_refl _)
        obtain ⟨_, c0, c1, c2, c3, c4⟩ := gb_
        go_wp2_with fail
        clear c0 c1 c2 c3 c4
        refine hu.mono ?_
        rintro e w6 ⟨rfl, qq⟩
        replace own := owns_below own qq
        replace qb := qb.trans (qq.mono hgw)
        clear qq hu rz hgw
        have hgw := qb.size
        rw [hgx] at hgw
        have gb_ := gb.below qb (by rw [hgx]; exact Nat.le_refl _)
        obtain ⟨_, c0, c1, c2, c3, c4⟩ := gb_
        have u6 : IntKind.i64.wrap (8 * (sc : Int)) = 8 * (sc : Int) := by rw [IntKind.wrap_i64]; omega
        go_wp2_with fail
        clear c0 c1 c2 c3 c4
        refine (hwh _).mono ?_
        rintro e w7 ⟨rfl, qq⟩
        replace own := owns_below own qq
        replace qb := qb.trans (qq.mono hgw)
        clear qq hgw hwh
        obtain ⟨B, hB_⟩ : ∃ B, 8 * PW + fr + k = B := ⟨_, rfl⟩
        rw [hB_] at d2 d3 HD1
        have HBI : Hid (8 * PW + fr + k = B) := hB_
        have hB8 : B < 8 * i := by omega
        clear hB_
        obtain ⟨q, hq⟩ : ∃ q, B / 8 = q := ⟨_, rfl⟩
        obtain ⟨r, hr⟩ : ∃ r, B % 8 = r := ⟨_, rfl⟩
        rw [hq, hr] at d2 HD1
        rw [hq] at d3
        have hqi : q < i := by omega
        have hr8 : r < 8 := by omega
        have v1 : (B : Int) / 8 = (q : Int) := by omega
        have v2 : (B : Int) % 8 = (r : Int) := by omega
        have v3 : (B : Int).tdiv 8 = (q : Int) := by rw [Int.tdiv_eq_ediv_of_nonneg (by omega)]; exact v1
        have v4 : (B : Int).tmod 8 = (r : Int) := by rw [Int.tmod_eq_emod_of_nonneg (by omega)]; exact v2
        clear hq hr
        have hcl := owned_cell own q hqi
        have hfz := own.frozenAt q
        have R := owned_set (q := q) (x := (dimTo i (8 * PW + fr) k)[q]?.getD 0 - 2 ^ r) (Nat.le_refl _) own qb
        rw [← HD1.out] at R
        have HR : Hid _ := R
        clear R own qb HD1
        have hpw : (0 : Int) < 2 ^ r := Int.pow_pos (by decide)
        have htu := turned_any r hr8
        generalize (dimTo i (8 * PW + fr) k)[q]?.getD 0 = c at *
        generalize (2 : Int) ^ r = pr at *
        have v5 : IntKind.u8.wrap (c - pr) = c - pr := by rw [IntKind.wrap_u8]; omega
        have u7 : IntKind.i64.wrap (8 * (sc : Int) * (W : Int)) = 8 * (PW : Int) := by rw [HUI.out, IntKind.wrap_i64]; omega
        have u8_ : IntKind.i64.wrap (8 * (PW : Int) + (fr : Int)) = 8 * (PW : Int) + (fr : Int) := by rw [IntKind.wrap_i64]; omega
        have u9_ : IntKind.i64.wrap (8 * (PW : Int) + (fr : Int) + (k : Int)) = (B : Int) := by rw [IntKind.wrap_i64]; have := HBI.out; omega
        have u10_ : 8 * (PW : Int) + (fr : Int) + (k : Int) = (B : Int) := by have := HBI.out; omega
        have v6 : (q : Int) < (i : Int) := by omega
        have v7 : (0 : Int) ≤ (q : Int) := by omega
        have v8 : IntKind.i64.wrap (q : Int) = (q : Int) := by rw [IntKind.wrap_i64]; omega
        have v9 : IntKind.i64.wrap (r : Int) = (r : Int) := by rw [IntKind.wrap_i64]; omega
        have v10 : IntKind.i64.wrap ((B : Int).tdiv 8) = (q : Int) := by rw [v3, v8]
        have v11 : IntKind.i64.wrap ((B : Int).tmod 8) = (r : Int) := by rw [v4, v9]
        have v12 : IntKind.i64.wrap ((B : Int) / 8) = (q : Int) := by rw [v1, v8]
        have v13 : IntKind.i64.wrap ((B : Int) % 8) = (r : Int) := by rw [v2, v9]
        have v14 : ((q : Int)).toNat = q := by omega
        go_wp2_with fail
        go_region_with (first
          | (go_at_call 24; refine (htu _).mono ?_; rintro e w' ⟨rfl, rfl⟩))
        all_goals
          go_wp2
          go_roundw
          case rel => exact ⟨k + 1, by omega, by go_num, HR.out.1.drew, HR.out.2.drew⟩
          case measure => simp [intOf]; omega
      have e : k = f + 1 := by omega
      subst e
      have hu := fun (w1 : World) (r : Row .u8 w1 (some ⟨gr, 0, none⟩) i i (dimTo i (8 * PW + fr) (f + 1))) => hun _ w1 gr r hzB (by rw [hb2]; decide) 60 (by show _ = _; rw [hb1, hb2]; simp)
      clear hun HDB HDF HDS hb1 hb2
      have u5 : ¬ ((f : Int) + 1 ≤ (f : Int)) := by omega
      have u4 : ¬ (((f + 1 : Nat) : Int) ≤ (f : Int)) := by omega
      have gb_ := gb.below qb (by rw [hgx]; exact Nat.le_refl _)
      obtain ⟨_, c0, c1, c2, c3, c4⟩ := gb_
      go_wp2_with fail
      clear c0 c1 c2 c3 c4
      refine (hu _ rz).mono ?_
      rintro e w6 ⟨rfl, qq⟩
      replace own := owns_below own qq
      replace qb := qb.trans (qq.mono hgw)
      clear qq rz hgw
      have rz := isB_of_row own
      have hrd := eccRead_err b p s n f _ _ _ w6 60 (by decide) (fun w1 q => hu w1 (rz.below q (Nat.le_refl _)))
      have hgw := qb.size
      rw [hgx] at hgw
      have gb_ := gb.below qb (by rw [hgx]; exact Nat.le_refl _)
      obtain ⟨_, c0, c1, c2, c3, c4⟩ := gb_
      go_wp2_with fail
      clear c0 c1 c2 c3 c4
      refine hrd.mono ?_
      rintro e w7 ⟨rfl, qq⟩
      replace qb := qb.trans (qq.mono hgw)
      clear qq hrd hu rz own hgw
      go_wp2_with fail
      refine (awake6_any hB hE hD _).mono ?_
      rintro e w8 ⟨rfl, qq⟩
      go_wp2_with fail
      go_ret
      exact ⟨rfl, btrans (Below.trans q1 (qb.mono (by rw [← hgx]; exact q1.size))) qq⟩

end Go.Proofs.Ytaabgfameegomaa
