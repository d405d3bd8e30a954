/-
  Layer 14's laws: the walk of Sha512Constants. (Written by tools/gen/shb_const_law.py.)
-/
import Derived.Test.YthcnnglpncblaaaShbAwake
import Derived.Test.YthcnnglpncblaaaShbRef2
namespace Go.Proofs.Ythcnnglpncblaaa.B
open Go.RowKit
set_option linter.unusedVariables false
set_option maxRecDepth 8192

theorem walk_constants_no (n : Int) (w : World) (h : n < 0 ∨ 80 ≤ n) : Calls Try.prog 3 #[.int .i64 n] w fun e w' => e = .returned (.bool true) ∧ Below w.heap.size w w' := by
  rcases h with h | h
  · go_enter Try.func3, Try.ntmps3
    go_wp2_with fail
    refine (awake14_any _).mono ?_
    rintro e w1 ⟨rfl, q1⟩
    go_wp2
    go_ret
    exact ⟨rfl, q1⟩
  · have h0 : ¬ n < 0 := by omega
    go_enter Try.func3, Try.ntmps3
    go_wp2_with fail
    refine (awake14_any _).mono ?_
    rintro e w1 ⟨rfl, q1⟩
    go_wp2
    go_ret
    exact ⟨rfl, q1⟩
theorem arr_get {k : IntKind} {L : List Nat} {n : Nat} (hL : L.length = n) (i : Nat) (hi : i < n) : (((nI L).map (Value.int k)).toArray)[i]? = some (.int k ((L[i]?.getD 0 : Nat) : Int)) := by
  rw [← nI_get, List.getElem?_toArray, List.getElem?_map, List.getElem?_eq_getElem (show i < (nI L).length by rw [nI_length, hL]; exact hi)]
  rfl
set_option maxHeartbeats 3200000 in
theorem walk_constants_gen (K SS : List Nat) (hK : K.length = 80) (hS : SS.length = 8) (hKl : ∀ x ∈ K, x < 18446744073709551616) (hSl : ∀ x ∈ SS, x < 18446744073709551616)
    (cSt : ∀ w, Calls Try.prog 11 #[] w fun e w' => e = .returned (.agg ((nI SS).map (Value.int .u64)).toArray) ∧ Below w.heap.size w w')
    (cR : ∀ w, Calls Try.prog 9 #[] w fun e w' => e = .returned (.agg ((nI K).map (Value.int .u64)).toArray) ∧ Below w.heap.size w w')
    (dSt : ∀ w, Calls Try.prog 12 #[] w fun e w' => e = .returned (.agg ((nI SS).map (Value.int .u64)).toArray) ∧ Below w.heap.size w w')
    (dR : ∀ w, Calls Try.prog 10 #[] w fun e w' => e = .returned (.agg ((nI K).map (Value.int .u64)).toArray) ∧ Below w.heap.size w w')
    (n : Nat) (w : World) (hn : n < 80) : Calls Try.prog 3 #[.int .i64 (n : Int)] w fun e w' => e = .returned (.bool true) ∧ Below w.heap.size w w' := by
  have hm : n % 8 < 8 := Nat.mod_lt _ (by decide)
  have HIK : Hid (∀ w, (Instr.index 24 (.agg ((nI K).map (Value.int .u64)).toArray) (.int .i64 (n : Int))).run Try.prog w = .ok (.int .u64 ((K[n]?.getD 0 : Nat) : Int)) w) := fun w => run_indexA 24 23 80 _ .i64 .u64 n _ Try.underlying24 Try.underlying23 Try.one23 hn (arr_get hK n hn)
  have HIS : Hid (∀ w, (Instr.index 26 (.agg ((nI SS).map (Value.int .u64)).toArray) (.int .i64 ((n % 8 : Nat) : Int))).run Try.prog w = .ok (.int .u64 ((SS[n % 8]?.getD 0 : Nat) : Int)) w) := fun w => run_indexA 26 23 8 _ .i64 .u64 (n % 8) _ Try.underlying26 Try.underlying23 Try.one23 hm (arr_get hS (n % 8) hm)
  have bK := getD_lt (by decide) hKl n
  have bS := getD_lt (by decide) hSl (n % 8)
  clear hK hS hKl hSl
  generalize ((nI K).map (Value.int .u64)).toArray = XK at *
  generalize ((nI SS).map (Value.int .u64)).toArray = XS at *
  generalize K[n]?.getD 0 = kv at *
  generalize SS[n % 8]?.getD 0 = sv at *
  have hmt : (n : Int).tmod 8 = ((n % 8 : Nat) : Int) := by rw [Int.tmod_eq_emod_of_nonneg (by omega)]; omega
  have hme : (n : Int) % 8 = ((n % 8 : Nat) : Int) := by omega
  generalize n % 8 = m at *
  have hn0 : ¬ (n : Int) < 0 := by omega
  have hn8 : ¬ (80 : Int) ≤ (n : Int) := by omega
  have q1 := Below.refl w.heap.size w
  go_enter Try.func3, Try.ntmps3
  go_wp2_with fail
  refine held_begin (by kernel_rfl) ?_
  refine held_call (i := 0) (fuel := 21) (by kernel_rfl) rfl (by rfl) (fun K hK => ?_)
  go_simp
  have qd := Since.drew w
  replace q1 := btrans q1 qd
  clear qd
  refine (awake14_any _).mono ?_
  rintro e w1 ⟨rfl, qq0⟩
  refine hK _ _ (Since.trans (Since.drew _) qq0) ?_
  have qq : Since _ _ := qq0
  clear hK K qq0
  replace q1 := btrans q1 qq
  clear qq
  refine held_reads (rs := [1, 3, 6]) (fuel := 18) (by kernel_rfl) (fun c d v a w h => by cases d <;> exact h) (by kernel_rfl) (Since.refl _) (fun K hK => ?_)
  go_simp
  refine calm_move _ rfl (by rfl) rfl ?_
  go_simp
  refine calm_move _ rfl (by rfl) rfl ?_
  go_simp
  refine calm_move _ rfl (by rfl) rfl ?_
  go_simp
  refine calm_nil (hK.out _ ?_)
  clear hK K
  refine held_call (i := 2) (fuel := 17) (by kernel_rfl) rfl (by rfl) (fun K hK => ?_)
  go_simp
  refine (cR _).mono ?_
  rintro e w2 ⟨rfl, qq0⟩
  refine hK _ _ (Since.trans (Since.refl _) qq0) ?_
  have qq : Since _ _ := qq0
  clear hK K qq0
  replace q1 := btrans q1 qq
  clear qq
  refine held_reads (rs := [4]) (fuel := 16) (by kernel_rfl) (fun c d v a w h => by cases d <;> exact h) (by kernel_rfl) (Since.refl _) (fun K hK => ?_)
  go_simp
  refine calm_do (.int .u64 (kv : Int)) rfl (by rfl) (fun w' hw' => ?_) ?_
  · have hix := HIK.out w'
    go_simp
  go_simp
  refine calm_nil (hK.out _ ?_)
  clear hK K
  refine held_call (i := 5) (fuel := 15) (by kernel_rfl) rfl (by rfl) (fun K hK => ?_)
  go_simp
  refine (dR _).mono ?_
  rintro e w3 ⟨rfl, qq0⟩
  refine hK _ _ (Since.trans (Since.refl _) qq0) ?_
  have qq : Since _ _ := qq0
  clear hK K qq0
  replace q1 := btrans q1 qq
  clear qq
  refine held_reads (rs := [7, 8, 9, 10, 12, 13, 16, 17]) (fuel := 7) (by kernel_rfl) (fun c d v a w h => by cases d <;> exact h) (by kernel_rfl) (Since.refl _) (fun K hK => ?_)
  go_simp
  refine calm_do (.int .u64 (kv : Int)) rfl (by rfl) (fun w' hw' => ?_) ?_
  · have hix := HIK.out w'
    go_simp
  go_simp
  refine calm_do (.bool true) rfl (by rfl) (fun w' hw' => ?_) ?_
  · go_simp
  go_simp
  refine calm_do (.bool true) rfl (by rfl) (fun w' hw' => ?_) ?_
  · go_simp
  go_simp
  refine calm_move _ rfl (by rfl) rfl ?_
  go_simp
  refine calm_move _ rfl (by rfl) rfl ?_
  go_simp
  refine calm_do (.int .i64 (m : Int)) rfl (by rfl) (fun w' hw' => ?_) ?_
  · go_simp
  go_simp
  refine calm_move _ rfl (by rfl) rfl ?_
  go_simp
  refine calm_do (.int .i64 (m : Int)) rfl (by rfl) (fun w' hw' => ?_) ?_
  · go_simp
  go_simp
  refine calm_nil (hK.out _ ?_)
  clear hK K
  refine held_call (i := 11) (fuel := 6) (by kernel_rfl) rfl (by rfl) (fun K hK => ?_)
  go_simp
  refine (cSt _).mono ?_
  rintro e w4 ⟨rfl, qq0⟩
  refine hK _ _ (Since.trans (Since.refl _) qq0) ?_
  have qq : Since _ _ := qq0
  clear hK K qq0
  replace q1 := btrans q1 qq
  clear qq
  refine held_reads (rs := [14]) (fuel := 5) (by kernel_rfl) (fun c d v a w h => by cases d <;> exact h) (by kernel_rfl) (Since.refl _) (fun K hK => ?_)
  go_simp
  refine calm_do (.int .u64 (sv : Int)) rfl (by rfl) (fun w' hw' => ?_) ?_
  · have hix := HIS.out w'
    go_simp
  go_simp
  refine calm_nil (hK.out _ ?_)
  clear hK K
  refine held_call (i := 15) (fuel := 4) (by kernel_rfl) rfl (by rfl) (fun K hK => ?_)
  go_simp
  refine (dSt _).mono ?_
  rintro e w5 ⟨rfl, qq0⟩
  refine hK _ _ (Since.trans (Since.refl _) qq0) ?_
  have qq : Since _ _ := qq0
  clear hK K qq0
  replace q1 := btrans q1 qq
  clear qq
  refine held_reads (rs := [18, 19, 20, 21]) (fuel := 0) (by kernel_rfl) (fun c d v a w h => by cases d <;> exact h) (by kernel_rfl) (Since.refl _) (fun K hK => ?_)
  go_simp
  refine calm_do (.int .u64 (sv : Int)) rfl (by rfl) (fun w' hw' => ?_) ?_
  · have hix := HIS.out w'
    go_simp
  go_simp
  refine calm_do (.bool true) rfl (by rfl) (fun w' hw' => ?_) ?_
  · go_simp
  go_simp
  refine calm_do (.bool true) rfl (by rfl) (fun w' hw' => ?_) ?_
  · go_simp
  go_simp
  refine calm_assign _ rfl (by rfl) rfl ?_
  go_simp
  refine calm_nil (hK.out _ ?_)
  clear hK K
  refine wpAnyH_done (by kernel_rfl) ?_ _
  go_wp2
  go_ret
  exact ⟨rfl, q1⟩
theorem SL_lt : ∀ x ∈ SL, x < 18446744073709551616 := by decide +kernel
theorem walk_Sha512Constants (n : Int) (w : World) : Calls Try.prog 3 #[.int .i64 n] w fun e w' => e = .returned (.bool true) ∧ Below w.heap.size w w' := by
  by_cases h : n < 0 ∨ 80 ≤ n
  · exact walk_constants_no n w h
  · obtain ⟨m, rfl⟩ := Int.eq_ofNat_of_zero_le (show 0 ≤ n by omega)
    exact walk_constants_gen KL SL KL_length SL_length KL_lt SL_lt start_any rounds_any refStart14 refRounds14 m w (by omega)
end Go.Proofs.Ythcnnglpncblaaa.B
