/-
  Layer 20's laws: the walk of ManifestLays.
-/
import Derived.Test.YtennmhenlhaliaaManFace
import Derived.Test.YtennmhenlhaliaaManRef
import Derived.Test.YtennmhenlhaliaaManRef2
namespace Go.Proofs.Ytennmhenlhaliaa.N
open Go.RowKit
set_option linter.unusedVariables false
set_option maxRecDepth 8192

set_option maxHeartbeats 1600000 in
theorem walk_manifestLays {v s k e : Int} {a : Option Addr} {n cap : Nat} {l : List Sg} {w : World} (hr : SegRow w a n cap l) (ho : ∀ s ∈ l, s.Ok) : Calls Try.prog 3 #[.agg #[.int .i64 v, .int .i64 s, .int .i64 k, .int .i64 e, .slice a n cap]] w fun e' w' => e' = .returned (.bool true) ∧ Below w.heap.size w w' := by
  have hc := hr.hcap
  have hm := hr.hmax
  unfold maxLen at hm
  have V1 := (Vars.start w).new 24 #[.int .i64 v, .int .i64 s, .int .i64 k, .int .i64 e, .slice a n cap]
  have hg := V1.at 0 rfl
  have q1 := V1.bel
  clear V1
  by_cases hl : 100 < n
  · have hl' : (100 : Int) < (n : Int) := by omega
    go_enter Try.func3, Try.ntmps3
    go_wp2_with fail
    go_ret
    exact ⟨rfl, q1⟩
  have hl' : ¬ (100 : Int) < (n : Int) := by omega
  go_enter Try.func3, Try.ntmps3
  go_wp2_with fail
  generalize w.alloc (.cells #[.int .i64 v, .int .i64 s, .int .i64 k, .int .i64 e, .slice a n cap] 24) = w1 at *
  have hr1 := hr.below q1 (Nat.le_refl _)
  cases hm9 : mayM ⟨v, s, k, e, l⟩
  · refine (mBytes_no hr1 ho hm9).mono ?_
    rintro e' w2 ⟨rfl, q2⟩
    have hg2 : w2.heap[w.heap.size]? = some (.cells #[.int .i64 v, .int .i64 s, .int .i64 k, .int .i64 e, .slice a n cap] 24 (0, 0)) := by rw [q2.block _ (lt_of_heap hg)]; exact hg
    have c0 := man_c hg2 0
    have c1 := man_c hg2 1
    have c2 := man_c hg2 2
    have c3 := man_c hg2 3
    have c4 := man_c hg2 4
    go_wp2_with fail
    have hmay := refMay_any (v := v) (s := s) (k := k) (e := e) (hr1.below q2 (Nat.le_refl _)) ho
    rw [hm9] at hmay
    refine hmay.mono ?_
    rintro e' w3 ⟨rfl, q3⟩
    clear c0 c1 c2 c3 c4 hmay
    go_wp2_with fail
    refine (awake20_any _).mono ?_
    rintro e' w4 ⟨rfl, q4⟩
    have HQ : Hid (Below w.heap.size w w4) := btrans (btrans (btrans q1 q2) q3) q4
    clear q1 q2 q3 q4 hg hg2 hr1 hr
    go_wp2_with fail
    go_ret
    exact ⟨rfl, HQ.out⟩
  refine (mBytes_yes hr1 ho hm9).mono ?_
  rintro e' w2 ⟨u, rfl, own, q2⟩
  obtain ⟨ab, cb, rfl, rb⟩ := row_of_owns own
  clear own
  have hg2 : w2.heap[w.heap.size]? = some (.cells #[.int .i64 v, .int .i64 s, .int .i64 k, .int .i64 e, .slice a n cap] 24 (0, 0)) := by rw [q2.block _ (lt_of_heap hg)]; exact hg
  have c0 := man_c hg2 0
  have c1 := man_c hg2 1
  have c2 := man_c hg2 2
  have c3 := man_c hg2 3
  have c4 := man_c hg2 4
  have hr2 := hr1.below q2 (Nat.le_refl _)
  go_wp2_with fail
  have hmay := refMay_any (v := v) (s := s) (k := k) (e := e) hr2 ho
  rw [hm9] at hmay
  refine hmay.mono ?_
  rintro e' w3 ⟨rfl, q3⟩
  clear c0 c1 c2 c3 c4 hmay
  have hg3 : w3.heap[w.heap.size]? = some (.cells #[.int .i64 v, .int .i64 s, .int .i64 k, .int .i64 e, .slice a n cap] 24 (0, 0)) := by rw [q3.block _ (lt_of_heap hg2)]; exact hg2
  have hr3 := hr2.below q3 (Nat.le_refl _)
  have rb3 := rb.below q3 (Nat.le_refl _)
  have Q3 := btrans (btrans q1 q2) q3
  clear hg hg2 hr1 hr2 rb q1 q2 q3
  go_wp2_with fail
  refine held_begin (by kernel_rfl) ?_
  refine held_call (i := 0) (fuel := 13) (by kernel_rfl) rfl (by rfl) (fun K hK => ?_)
  go_simp
  refine (awake20_any _).mono ?_
  rintro e' w4 ⟨rfl, q4⟩
  refine hK _ _ (Since.trans (Since.drew _) q4) ?_
  have Q4 : Since w3 w4 := Since.trans (Since.drew _) q4
  clear hK K q4
  have hg4 : w4.heap[w.heap.size]? = some (.cells #[.int .i64 v, .int .i64 s, .int .i64 k, .int .i64 e, .slice a n cap] 24 (0, 0)) := by rw [Q4.block _ (lt_of_heap hg3)]; exact hg3
  have hr4 := hr3.below Q4 (Nat.le_refl _)
  have rb4 := rb3.below Q4 (Nat.le_refl _)
  have Q5 := btrans Q3 Q4
  clear hg3 hr3 rb3 Q3 Q4
  refine held_reads (rs := [1, 2, 3, 4, 5, 6, 7, 8]) (fuel := 5) (by kernel_rfl) (fun c d v a w h => by cases d <;> exact h) (by kernel_rfl) (Since.refl _) (fun K hK => ?_)
  go_simp
  refine calm_move _ rfl (by rfl) rfl ?_
  go_simp
  refine calm_move _ rfl (by rfl) rfl ?_
  go_simp
  refine calm_do (.bool true) rfl (by rfl) (fun w' hw' => ?_) ?_
  · go_simp
  go_simp
  refine calm_do (.bool true) rfl (by rfl) (fun w' hw' => ?_) ?_
  · go_simp
  go_simp
  refine calm_move _ rfl (by rfl) rfl ?_
  go_simp
  refine calm_move _ rfl (by rfl) rfl ?_
  go_simp
  refine calm_do (.string (strOfNums (mfBytes ⟨v, s, k, e, l⟩))) rfl (by rfl) (fun w' hw' => ?_) ?_
  · have kc := conv_row (P := Try.prog) Try.underlying25 Try.underlying5 Try.underlying9 (rb4.below hw' (Nat.le_refl _))
    go_simp
  go_simp
  refine calm_do (.agg #[.int .i64 v, .int .i64 s, .int .i64 k, .int .i64 e, .slice a n cap]) rfl (by rfl) (fun w' hw' => ?_) ?_
  · have hg5 : w'.heap[w.heap.size]? = some (.cells #[.int .i64 v, .int .i64 s, .int .i64 k, .int .i64 e, .slice a n cap] 24 (0, 0)) := by rw [hw'.block _ (lt_of_heap hg4)]; exact hg4
    have d0 : w'.cell? ⟨w.heap.size, 0, none⟩ = some (.int .i64 v) := man_c hg5 0
    have d1 : w'.cell? ⟨w.heap.size, 1, none⟩ = some (.int .i64 s) := man_c hg5 1
    have d2 : w'.cell? ⟨w.heap.size, 2, none⟩ = some (.int .i64 k) := man_c hg5 2
    have d3 : w'.cell? ⟨w.heap.size, 3, none⟩ = some (.int .i64 e) := man_c hg5 3
    have d4 : w'.cell? ⟨w.heap.size, 4, none⟩ = some (.slice a n cap) := man_c hg5 4
    go_simp
  go_simp
  refine calm_nil (hK.out _ ?_)
  clear hK K
  refine held_call (i := 9) (fuel := 4) (by kernel_rfl) rfl (by rfl) (fun K hK => ?_)
  go_simp
  refine (refBytes20_any hr4 ho hm9).mono ?_
  rintro e' w5 ⟨v5, rfl, own5, q5⟩
  obtain ⟨a5, c5, rfl, r5⟩ := row_of_owns own5
  refine hK _ _ q5 ?_
  have HQ : Hid (Below w.heap.size w w5) := btrans Q5 q5
  clear hK K own5 q5 Q5 hg4 hr4 rb4
  refine held_reads (rs := [10, 11, 12, 13]) (fuel := 0) (by kernel_rfl) (fun c d v a w h => by cases d <;> exact h) (by kernel_rfl) (Since.refl _) (fun K hK => ?_)
  go_simp
  refine calm_do (.string (strOfNums (mfBytes ⟨v, s, k, e, l⟩))) rfl (by rfl) (fun w' hw' => ?_) ?_
  · have kc := conv_row (P := Try.prog) Try.underlying25 Try.underlying5 Try.underlying9 (r5.below hw' (Nat.le_refl _))
    go_simp
  go_simp
  refine calm_do (.bool true) rfl (by rfl) (fun w' hw' => ?_) ?_
  · go_simp
  go_simp
  refine calm_do (.bool true) rfl (by rfl) (fun w' hw' => ?_) ?_
  · go_simp
  go_simp
  refine calm_assign _ rfl (by rfl) rfl ?_
  go_simp
  refine calm_nil (hK.out _ ?_)
  clear hK K
  refine wpAnyH_done (by kernel_rfl) ?_ _
  go_wp2_with fail
  go_ret
  exact ⟨rfl, HQ.out⟩
end Go.Proofs.Ytennmhenlhaliaa.N
