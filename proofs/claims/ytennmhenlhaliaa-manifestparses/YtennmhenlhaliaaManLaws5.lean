/-
  Layer 20's laws: the walk of ManifestParses.
-/
import Derived.Test.YtennmhenlhaliaaManFace
import Derived.Test.YtennmhenlhaliaaManRef4
namespace Go.Proofs.Ytennmhenlhaliaa.N
open Go.RowKit
set_option linter.unusedVariables false
set_option maxRecDepth 8192

theorem mpar_long {a : Option Addr} {n c : Nat} {w : World} (h1 : 1000 < n) (h2 : n ≤ 9223372036854775807) : Calls Try.prog 4 #[.slice a n c] w fun e' w' => e' = .returned (.bool true) ∧ Below w.heap.size w w' := by
  have h1' : (1000 : Int) < (n : Int) := by omega
  go_enter Try.func4, Try.ntmps4
  go_wp2_with fail
  go_ret
  exact ⟨rfl, Below.refl _ _⟩
set_option maxHeartbeats 3200000 in
theorem mpar_core {a : Option Addr} {n c : Nat} {z : List Int} {w : World} (hr : Row .u8 w a n c z) (hz : IsB z) (hn : n ≤ 1000) : Calls Try.prog 4 #[.slice a n c] w fun e' w' => e' = .returned (.bool true) ∧ Below w.heap.size w w' := by
  obtain ⟨i0, hi0, hz0, hz1, hz2⟩ := info_parts Try.info5
  have hn' : ¬ (1000 : Int) < (n : Int) := by omega
  have q1 := below_one w (.cells #[] 5)
  have hown0 := own_lit w
  have rd := hr.below q1 (Nat.le_refl _)
  have HRZ : Hid (∀ W, Below w.heap.size w W → Row .u8 W a n c z) := fun W q => hr.below q (Nat.le_refl _)
  have HPZ : Hid (∀ W, Below w.heap.size w W → Calls Try.prog 13 #[.slice a n c] W fun e w' => Below W.heap.size W w' ∧
      ((isMf z = true ∧ ∃ sa sc, e = .returned (.tuple #[.agg #[.int .i64 (numAt z 4), .int .i64 (numAt z 8), .int .i64 (numAt z 12), .int .i64 (numAt z 16), .slice sa ((cnt z)) sc], .bool true]) ∧ SegRow w' sa (cnt z) sc (sgsTo z (cnt z))) ∨
        (isMf z = false ∧ e = .returned (.tuple #[.agg #[.int .i64 0, .int .i64 0, .int .i64 0, .int .i64 0, .slice none 0 0], .bool false])))) := fun W q => refParse20_any (hr.below q (Nat.le_refl _)) hz (by omega)
  go_enter Try.func4, Try.ntmps4
  go_wp2_with (at_builtin; refine wpList_append_row _ rfl _ _ 25 rfl w.heap.size 5 i0 (.int .u8 0) 1 Try.underlying25 hi0 hz0 hz1 hz2 rfl _ 0 [] rfl hown0 .u8 a n c _ rfl rd (by unfold maxLen; omega) (by omega) (by simp) ?_; intro v1 wo own1 hg1)
  have qo : Below w.heap.size w wo := q1.grown hg1 (by simp) (fun k hk => (hown0.lt k hk).1)
  rw [List.nil_append, Nat.zero_add] at own1
  obtain ⟨ao, co, rfl, ro⟩ := row_of_owns own1
  clear q1 hown0 rd own1 hg1 hr
  have HRO : Hid (∀ W, Below wo.heap.size wo W → Row .u8 W ao n co z) := fun W q => ro.below q (Nat.le_refl _)
  have hsz := qo.size
  go_wp2_with fail
  refine (parse_any ro hz).mono ?_
  rintro e' w3 ⟨q3, hcase⟩
  clear ro
  rcases hcase with ⟨ht, sa, sc, rfl, row⟩ | ⟨hf, rfl⟩
  · have V3 := Vars.start w3
    go_wp2_with (first
      | (refine wpList_allocV V3 4 24 rfl rfl rfl #[.int .i64 0, .int .i64 0, .int .i64 0, .int .i64 0, .slice none 0 0] zeroMf ?_; intro w4 g4 V4)
      | (refine wpList_storeV V4 0 rfl _ (.tmp 17) rfl rfl rfl #[.int .i64 (numAt z 4), .int .i64 (numAt z 8), .int .i64 (numAt z 12), .int .i64 (numAt z 16), .slice sa ((cnt z)) sc] rfl rfl Try.szMf rfl rfl (mf_oneS _ _ _ _ _ _ _) ?_; intro w5 V5))
    have hg5 := V5.at 0 rfl
    have Q5 : Below wo.heap.size wo w5 := btrans q3 V5.bel
    replace row := row.below V5.bel (Nat.le_refl _)
    clear V3 V4 V5 q3
    refine (HPZ.out w5 (qo.trans (Q5.mono hsz))).mono ?_
    rintro e' w6 ⟨q6, ⟨_, ra, rc, rfl, rrow⟩ | ⟨hf, _⟩⟩
    rotate_left
    · rw [ht] at hf; cases hf
    have hg6 : w6.heap[g4]? = some (.cells #[.int .i64 (numAt z 4), .int .i64 (numAt z 8), .int .i64 (numAt z 12), .int .i64 (numAt z 16), .slice sa ((cnt z)) sc] 24 (0, 0)) := by rw [q6.block _ (lt_of_heap hg5)]; exact hg5
    replace row := row.below q6 (Nat.le_refl _)
    have Q6 := btrans Q5 q6
    clear hg5 q6 Q5
    have V6 := Vars.start w6
    have kc1 : ∀ W, Below wo.heap.size wo W → _ := fun W q => conv_row (P := Try.prog) Try.underlying25 Try.underlying5 Try.underlying9 (HRO.out W q)
    have kc2 : ∀ W, Below wo.heap.size wo W → _ := fun W q => conv_row (P := Try.prog) Try.underlying25 Try.underlying5 Try.underlying9 (HRZ.out W (qo.trans (q.mono hsz)))
    go_wp2_with (first
      | (refine wpList_allocV V6 6 24 rfl rfl rfl #[.int .i64 0, .int .i64 0, .int .i64 0, .int .i64 0, .slice none 0 0] zeroMf ?_; intro w7 g7 V7)
      | (refine wpList_storeV V7 0 rfl _ (.tmp 22) rfl rfl rfl #[.int .i64 (numAt z 4), .int .i64 (numAt z 8), .int .i64 (numAt z 12), .int .i64 (numAt z 16), .slice ra ((cnt z)) rc] rfl rfl Try.szMf rfl rfl (mf_oneS _ _ _ _ _ _ _) ?_; intro w8 V8; have k1 := kc1 w8 (btrans Q6 V8.bel); have k2 := kc2 w8 (btrans Q6 V8.bel)))
    have hg8 : w8.heap[g4]? = some (.cells #[.int .i64 (numAt z 4), .int .i64 (numAt z 8), .int .i64 (numAt z 12), .int .i64 (numAt z 16), .slice sa ((cnt z)) sc] 24 (0, 0)) := by rw [V8.bel.block _ (lt_of_heap hg6)]; exact hg6
    have hk8 := V8.at 0 rfl
    have Q8 := btrans Q6 V8.bel
    replace row := row.below V8.bel (Nat.le_refl _)
    replace rrow := rrow.below V8.bel (Nat.le_refl _)
    clear V6 V7 V8 hg6 Q6 kc1 kc2 k1 k2
    refine (awake20_any _).mono ?_
    rintro e' w9 ⟨rfl, q9⟩
    have hg9 : w9.heap[g4]? = some (.cells #[.int .i64 (numAt z 4), .int .i64 (numAt z 8), .int .i64 (numAt z 12), .int .i64 (numAt z 16), .slice sa ((cnt z)) sc] 24 (0, 0)) := by rw [q9.block _ (lt_of_heap hg8)]; exact hg8
    have hk9 : w9.heap[g7]? = some (.cells #[.int .i64 (numAt z 4), .int .i64 (numAt z 8), .int .i64 (numAt z 12), .int .i64 (numAt z 16), .slice ra ((cnt z)) rc] 24 (0, 0)) := by rw [q9.block _ (lt_of_heap hk8)]; exact hk8
    replace row := row.below q9 (Nat.le_refl _)
    replace rrow := rrow.below q9 (Nat.le_refl _)
    have Q9 := btrans Q8 q9
    have c0 := man_c hg9 0
    have c1 := man_c hg9 1
    have c2 := man_c hg9 2
    have c3 := man_c hg9 3
    have c4 := man_c hg9 4
    have d0 := man_c hk9 0
    have d1 := man_c hk9 1
    have d2 := man_c hk9 2
    have d3 := man_c hk9 3
    have d4 := man_c hk9 4
    clear hg8 hk8 hg9 hk9 q9 Q8
    go_wp2_with fail
    refine (same_any row rrow (dec_ok hz (isMf_yes ht).2.1)).mono ?_
    rintro e' w10 ⟨rfl, q10⟩
    have HQ : Hid (Below w.heap.size w w10) := qo.trans ((btrans Q9 q10).mono hsz)
    clear c0 c1 c2 c3 c4 d0 d1 d2 d3 d4 row rrow Q9 q10
    go_wp2_with fail
    go_ret
    exact ⟨rfl, HQ.out⟩
  · have V3 := Vars.start w3
    go_wp2_with (first
      | (refine wpList_allocV V3 4 24 rfl rfl rfl #[.int .i64 0, .int .i64 0, .int .i64 0, .int .i64 0, .slice none 0 0] zeroMf ?_; intro w4 g4 V4)
      | (refine wpList_storeV V4 0 rfl _ (.tmp 17) rfl rfl rfl #[.int .i64 0, .int .i64 0, .int .i64 0, .int .i64 0, .slice none 0 0] rfl rfl Try.szMf rfl rfl (mf_one 0 0 0 0) ?_; intro w5 V5))
    have hg5 := V5.at 0 rfl
    have Q5 : Below wo.heap.size wo w5 := btrans q3 V5.bel
    clear V3 V4 V5 q3
    refine (HPZ.out w5 (qo.trans (Q5.mono hsz))).mono ?_
    rintro e' w6 ⟨q6, ⟨ht, _⟩ | ⟨_, rfl⟩⟩
    · rw [ht] at hf; cases hf
    have hg6 : w6.heap[g4]? = some (.cells #[.int .i64 0, .int .i64 0, .int .i64 0, .int .i64 0, .slice none 0 0] 24 (0, 0)) := by rw [q6.block _ (lt_of_heap hg5)]; exact hg5
    have Q6 := btrans Q5 q6
    clear hg5 q6 Q5
    have V6 := Vars.start w6
    have kc1 : ∀ W, Below wo.heap.size wo W → _ := fun W q => conv_row (P := Try.prog) Try.underlying25 Try.underlying5 Try.underlying9 (HRO.out W q)
    have kc2 : ∀ W, Below wo.heap.size wo W → _ := fun W q => conv_row (P := Try.prog) Try.underlying25 Try.underlying5 Try.underlying9 (HRZ.out W (qo.trans (q.mono hsz)))
    go_wp2_with (first
      | (refine wpList_allocV V6 6 24 rfl rfl rfl #[.int .i64 0, .int .i64 0, .int .i64 0, .int .i64 0, .slice none 0 0] zeroMf ?_; intro w7 g7 V7)
      | (refine wpList_storeV V7 0 rfl _ (.tmp 22) rfl rfl rfl #[.int .i64 0, .int .i64 0, .int .i64 0, .int .i64 0, .slice none 0 0] rfl rfl Try.szMf rfl rfl (mf_one 0 0 0 0) ?_; intro w8 V8; have k1 := kc1 w8 (btrans Q6 V8.bel); have k2 := kc2 w8 (btrans Q6 V8.bel)))
    have hg8 : w8.heap[g4]? = some (.cells #[.int .i64 0, .int .i64 0, .int .i64 0, .int .i64 0, .slice none 0 0] 24 (0, 0)) := by rw [V8.bel.block _ (lt_of_heap hg6)]; exact hg6
    have Q8 := btrans Q6 V8.bel
    clear V6 V7 V8 hg6 Q6 kc1 kc2 k1 k2
    refine (awake20_any _).mono ?_
    rintro e' w9 ⟨rfl, q9⟩
    have hg9 : w9.heap[g4]? = some (.cells #[.int .i64 0, .int .i64 0, .int .i64 0, .int .i64 0, .slice none 0 0] 24 (0, 0)) := by rw [q9.block _ (lt_of_heap hg8)]; exact hg8
    have Q9 := btrans Q8 q9
    have c0 := man_c hg9 0
    have c1 := man_c hg9 1
    have c2 := man_c hg9 2
    have c3 := man_c hg9 3
    have c4 := man_c hg9 4
    clear hg8 hg9 q9 Q8
    go_wp2_with fail
    refine (same_any (v := 0) (s := 0) (k := 0) (e := 0) (segRow_nil w9) (segRow_nil w9) (fun s hs => by cases hs)).mono ?_
    rintro e' w10 ⟨rfl, q10⟩
    have HQ : Hid (Below w.heap.size w w10) := qo.trans ((btrans Q9 q10).mono hsz)
    clear c0 c1 c2 c3 c4 Q9 q10
    go_wp2_with fail
    go_ret
    exact ⟨rfl, HQ.out⟩
theorem walk_manifestParses {a : Option Addr} {n c : Nat} {z : List Int} {w : World} (hr : Row .u8 w a n c z) (hz : IsB z) : Calls Try.prog 4 #[.slice a n c] w fun e' w' => e' = .returned (.bool true) ∧ Below w.heap.size w w' := by
  rcases Nat.lt_or_ge 1000 n with h | h
  · exact mpar_long h (by have := hr.hcap; have := hr.hmax; unfold maxLen at this; omega)
  · exact mpar_core hr hz h
end Go.Proofs.Ytennmhenlhaliaa.N
