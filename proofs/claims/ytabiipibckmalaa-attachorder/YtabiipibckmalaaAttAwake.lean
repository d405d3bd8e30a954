/-
  Layer 10's examples (casematelaw10.awake).
-/
import Derived.Test.YtabiipibckmalaaAttCode5
import Derived.Test.YtabiipibckmalaaBits
namespace Go.Proofs.Ytabiipibckmalaa
open Go.RowKit
set_option linter.unusedVariables false
set_option maxRecDepth 8192

theorem frow_two (w : World) (T : TypeId) (x y : Fnd) : FRow (w.alloc (.cells #[.int .i64 x.block, .int .i64 x.leb, .int .i64 x.bytes, .int .i64 x.number, .bool x.whole, .int .i64 y.block, .int .i64 y.leb, .int .i64 y.bytes, .int .i64 y.number, .bool y.whole] T)) (some ⟨w.heap.size, 0, none⟩) 2 2 [x, y] := by
  refine ⟨rfl, Nat.le_refl _, by unfold maxLen; omega, by simp, fun _ => ⟨w.heap.size, 0, rfl, by simp, fun i hi => ?_⟩⟩
  have : i = 0 ∨ i = 1 := by omega
  rcases this with rfl | rfl
  · exact FAt.of_cells fun j hj => by
      have : j = 0 ∨ j = 1 ∨ j = 2 ∨ j = 3 ∨ j = 4 := by omega
      rcases this with rfl | rfl | rfl | rfl | rfl <;> (rw [World.cell?_alloc_at _ _ _ _ rfl]; rfl)
  · exact FAt.of_cells fun j hj => by
      have : j = 0 ∨ j = 1 ∨ j = 2 ∨ j = 3 ∨ j = 4 := by omega
      rcases this with rfl | rfl | rfl | rfl | rfl <;> (rw [World.cell?_alloc_at _ _ _ _ rfl]; rfl)
set_option maxHeartbeats 6400000 in
set_option maxRecDepth 100000 in
theorem awake10_any (w : World) : Calls Try.prog 7 #[] w fun e w' => e = .returned (.bool true) ∧ Below w.heap.size w w' := by
  go_enter Try.func7, Try.ntmps7
  go_wp2_with fail
  have fa := (fat_new w 26 (⟨4, 0, 0, 7, true⟩ : Fnd)).below (below_two _ (.cells #[.int .i64 5, .int .i64 0, .int .i64 0, .int .i64 9, .bool false] 26) (.cells #[.int .i64 4, .int .i64 0, .int .i64 0, .int .i64 7, .bool true, .int .i64 5, .int .i64 0, .int .i64 0, .int .i64 9, .bool false] 26)) (Nat.le_refl _)
  have r1 := frow_two ((w.alloc (.cells #[.int .i64 4, .int .i64 0, .int .i64 0, .int .i64 7, .bool true] 26)).alloc (.cells #[.int .i64 5, .int .i64 0, .int .i64 0, .int .i64 9, .bool false] 26)) 26 (⟨4, 0, 0, 7, true⟩ : Fnd) (⟨5, 0, 0, 9, false⟩ : Fnd)
  rw [show ((w.alloc (.cells #[.int .i64 4, .int .i64 0, .int .i64 0, .int .i64 7, .bool true] 26)).alloc (.cells #[.int .i64 5, .int .i64 0, .int .i64 0, .int .i64 9, .bool false] 26)).heap.size = w.heap.size + 1 + 1 by simp] at r1
  have q1 := below_three w (.cells #[.int .i64 4, .int .i64 0, .int .i64 0, .int .i64 7, .bool true] 26) (.cells #[.int .i64 5, .int .i64 0, .int .i64 0, .int .i64 9, .bool false] 26) (.cells #[.int .i64 4, .int .i64 0, .int .i64 0, .int .i64 7, .bool true, .int .i64 5, .int .i64 0, .int .i64 0, .int .i64 9, .bool false] 26)
  simp only at fa r1
  generalize ((w.alloc (.cells #[.int .i64 4, .int .i64 0, .int .i64 0, .int .i64 7, .bool true] 26)).alloc (.cells #[.int .i64 5, .int .i64 0, .int .i64 0, .int .i64 9, .bool false] 26)).alloc (.cells #[.int .i64 4, .int .i64 0, .int .i64 0, .int .i64 7, .bool true, .int .i64 5, .int .i64 0, .int .i64 0, .int .i64 9, .bool false] 26) = w1 at *
  refine (attPick_yes 2 (by omega) (by omega) _ 2 2 [(⟨4, 0, 0, 7, true⟩ : Fnd), (⟨5, 0, 0, 9, false⟩ : Fnd)] _ r1 (by omega) (by intro f hf; simp at hf; rcases hf with rfl | rfl <;> simp)).mono ?_
  rintro e w2 ⟨g1, rfl, rp, q2⟩
  rw [show nextL [(⟨4, 0, 0, 7, true⟩ : Fnd), (⟨5, 0, 0, 9, false⟩ : Fnd)] = 10 by decide]
  rw [show pickL 2 [(⟨4, 0, 0, 7, true⟩ : Fnd), (⟨5, 0, 0, 9, false⟩ : Fnd)] = [4, -1] by decide] at rp
  clear r1
  replace fa := fa.below q2 (Nat.le_refl _)
  replace q1 := btrans q1 q2
  clear q2
  have ga := fa.lt
  obtain ⟨c0, c1, c2, c3, c4⟩ := fa
  generalize hba : w.heap.size = ba at *
  go_wp2_with fail
  clear c0 c1 c2 c3 c4
  have r2 := frow_two (w2.alloc (.cells #[.int .i64 6, .int .i64 0, .int .i64 0, .int .i64 8, .bool true] 26)) 26 (⟨4, 0, 0, 7, true⟩ : Fnd) (⟨6, 0, 0, 8, true⟩ : Fnd)
  rw [show (w2.alloc (.cells #[.int .i64 6, .int .i64 0, .int .i64 0, .int .i64 8, .bool true] 26)).heap.size = w2.heap.size + 1 by simp] at r2
  have q3 := below_two w2 (.cells #[.int .i64 6, .int .i64 0, .int .i64 0, .int .i64 8, .bool true] 26) (.cells #[.int .i64 4, .int .i64 0, .int .i64 0, .int .i64 7, .bool true, .int .i64 6, .int .i64 0, .int .i64 0, .int .i64 8, .bool true] 26)
  simp only at r2
  replace rp := rp.below q3 (Nat.le_refl _)
  have q4 := q1.trans (q3.mono (by have := q1.size; omega))
  generalize (w2.alloc (.cells #[.int .i64 6, .int .i64 0, .int .i64 0, .int .i64 8, .bool true] 26)).alloc (.cells #[.int .i64 4, .int .i64 0, .int .i64 0, .int .i64 7, .bool true, .int .i64 6, .int .i64 0, .int .i64 0, .int .i64 8, .bool true] 26) = w3 at *
  clear q3
  refine (stale_two _ 2 (⟨4, 0, 0, 7, true⟩ : Fnd) (⟨6, 0, 0, 8, true⟩ : Fnd) _ r2 (by rfl) (by decide) (by decide) (by decide)).mono ?_
  rintro e w4 ⟨g4, c4, cp4, rfl, k1, k2, q5⟩
  simp only at k2
  replace rp := rp.below q5 (Nat.le_refl _)
  replace q4 := q4.trans (q5.mono (by have := q4.size; omega))
  clear r2 q5 q1
  go_wp2_with fail
  refine (attPick_no 0 _ _ (by decide)).mono ?_
  rintro e w' ⟨rfl, rfl⟩
  go_wp2_with fail
  have rq := row_new .i64 w4 3 w4.heap.size rfl [4, -1] 2 rfl (by unfold maxLen; omega) #[.int .i64 4, .int .i64 (-1)] rfl
  replace rp := rp.below (below_one w4 (.cells #[.int .i64 4, .int .i64 (-1)] 3)) (Nat.le_refl _)
  have l1 := lt_of_cell k1
  have l2 := lt_of_cell k2
  simp only at l1 l2
  have q6 := below_one w4 (.cells #[.int .i64 4, .int .i64 (-1)] 3)
  refine (ints_any _ _ 2 2 2 2 [4, -1] [4, -1] _ rp rq).mono ?_
  rintro e w5 ⟨rfl, q7⟩
  rw [show decide (([4, -1] : List Int) = [4, -1]) = true by decide]
  replace q7 := btrans q6 q7
  replace k1 := (q7.cell (p := ⟨g4, 0, none⟩) l1).trans k1
  replace k2 := (q7.cell (p := ⟨c4, 0, none⟩) l2).trans k2
  replace q4 := q4.trans (q7.mono (by have := q4.size; omega))
  clear rp rq q6 q7
  replace l1 := lt_of_cell k1
  replace l2 := lt_of_cell k2
  simp only at l1 l2
  go_wp2_with fail
  have q8 := below_two w5 (.cells #[.int .i64 4] 3) (.cells #[.slice (some ⟨w5.heap.size, 0, none⟩) 1 1] 27)
  have m1 := (q8.cell (p := ⟨g4, 0, none⟩) l1).trans k1
  have m2 := (q8.cell (p := ⟨c4, 0, none⟩) l2).trans k2
  have m3 : ((w5.alloc (.cells #[.int .i64 4] 3)).alloc (.cells #[.slice (some ⟨w5.heap.size, 0, none⟩) 1 1] 27)).cell? ⟨w5.heap.size, 0, none⟩ = some (.int .i64 4) := by simp
  have m4 : ((w5.alloc (.cells #[.int .i64 4] 3)).alloc (.cells #[.slice (some ⟨w5.heap.size, 0, none⟩) 1 1] 27)).cell? ⟨w5.heap.size + 1, 0, none⟩ = some (.slice (some ⟨w5.heap.size, 0, none⟩) 1 1) := by simp
  replace q4 := q4.trans (q8.mono (by have := q4.size; omega))
  refine (lists_one g4 (w5.heap.size + 1) c4 w5.heap.size cp4 1 4 _ m1 m4 m2 m3 1 1).mono ?_
  rintro e w6 ⟨rfl, q9⟩
  replace q4 := q4.trans (q9.mono (by have := q4.size; omega))
  clear m1 m2 m3 m4 q8 q9 k1 k2 l1 l2
  go_wp2_with fail
  go_ret
  exact ⟨rfl, by first | exact q4 | (rw [hba]; exact q4)⟩
end Go.Proofs.Ytabiipibckmalaa
