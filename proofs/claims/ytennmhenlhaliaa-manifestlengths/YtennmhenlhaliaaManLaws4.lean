/-
  Layer 20's laws: the walk of ManifestLengths.
-/
import Derived.Test.YtennmhenlhaliaaManFace
import Derived.Test.YtennmhenlhaliaaManZeros
import Derived.Test.YtennmhenlhaliaaManLaws
namespace Go.Proofs.Ytennmhenlhaliaa.N
open Go.RowKit
set_option linter.unusedVariables false
set_option maxRecDepth 8192

theorem makeZ20 (n : Nat) (c : Int) (hc : c = (n : Int)) (hn : n ≤ 1000) (w : World) : ∃ w', Sem.run Try.prog (Instr.makeSlice 25 (.int .i64 c) (.int .i64 c)) w = .ok (.slice (some ⟨w.heap.size, 0, none⟩) n n) w' ∧
    w'.ownsRow w.heap.size 5 1 (.slice (some ⟨w.heap.size, 0, none⟩) n n) n ((List.replicate n (0 : Int)).map (Value.int .u8)) ∧ Below w.heap.size w w' := by
  subst hc
  obtain ⟨i0, hi0, hz0, hz1, hz2⟩ := info_parts Try.info5
  obtain ⟨w', hrun, r1, r2⟩ := run_make_full (P := Try.prog) w w.heap.size 25 5 i0 (.int .u8 0) 1 Try.underlying25 hi0 hz0 hz1 .i64 .i64 n (by rw [hz2]; omega) (by unfold maxLen; omega) (Nat.le_refl _)
  rw [made_ints] at r1
  exact ⟨w', hrun, r1, (Below.refl _ _).grown r2 (Nat.le_refl _) (by simp)⟩
theorem lens_long {v s k e : Int} {a : Option Addr} {n cap : Nat} {more : Int} {w : World} (h1 : 100 < n) : Calls Try.prog 7 #[.agg #[.int .i64 v, .int .i64 s, .int .i64 k, .int .i64 e, .slice a n cap], .int .u8 more] w fun e' w' => e' = .returned (.bool true) ∧ Below w.heap.size w w' := by
  have h1' : (100 : Int) < (n : Int) := by omega
  go_enter Try.func7, Try.ntmps7
  go_wp2_with fail
  go_ret
  exact ⟨rfl, below_one _ _⟩
set_option maxHeartbeats 1600000 in
theorem lens_no {v s k e : Int} {a : Option Addr} {n cap : Nat} {l : List Sg} {more : Int} {w : World} (hr : SegRow w a n cap l) (ho : ∀ s ∈ l, s.Ok) (hn : n ≤ 100) (hm : mayM ⟨v, s, k, e, l⟩ = false) : Calls Try.prog 7 #[.agg #[.int .i64 v, .int .i64 s, .int .i64 k, .int .i64 e, .slice a n cap], .int .u8 more] w fun e' w' => e' = .returned (.bool true) ∧ Below w.heap.size w w' := by
  have V1 := (Vars.start w).new 24 #[.int .i64 v, .int .i64 s, .int .i64 k, .int .i64 e, .slice a n cap]
  have q1 := V1.bel
  clear V1
  have h1' : ¬ (100 : Int) < (n : Int) := by omega
  go_enter Try.func7, Try.ntmps7
  go_wp2_with fail
  generalize w.alloc (.cells #[.int .i64 v, .int .i64 s, .int .i64 k, .int .i64 e, .slice a n cap] 24) = w1 at *
  refine (mBytes_no (hr.below q1 (Nat.le_refl _)) ho hm).mono ?_
  rintro e' w2 ⟨rfl, q2⟩
  go_wp2_with fail
  refine (awake20_any _).mono ?_
  rintro e' w4 ⟨rfl, q4⟩
  have HQ : Hid (Below w.heap.size w w4) := btrans (btrans q1 q2) q4
  clear q1 q2 q4 hr
  go_wp2_with fail
  go_ret
  exact ⟨rfl, HQ.out⟩
set_option maxHeartbeats 3200000 in
theorem lens_yes {v s k e : Int} {a : Option Addr} {n cap : Nat} {l : List Sg} {more : Int} {w : World} (hr : SegRow w a n cap l) (ho : ∀ s ∈ l, s.Ok) (hmo : 0 ≤ more ∧ more ≤ 255) (hm : mayM ⟨v, s, k, e, l⟩ = true) : Calls Try.prog 7 #[.agg #[.int .i64 v, .int .i64 s, .int .i64 k, .int .i64 e, .slice a n cap], .int .u8 more] w fun e' w' => e' = .returned (.bool true) ∧ Below w.heap.size w w' := by
  obtain ⟨i0, hi0, hz0, hz1, hz2⟩ := info_parts Try.info5
  have hn8 : n ≤ 8 := by have := (mayM_yes hm).n; have := hr.hlen; show n ≤ 8; simp only at *; omega
  have V1 := (Vars.start w).new 24 #[.int .i64 v, .int .i64 s, .int .i64 k, .int .i64 e, .slice a n cap]
  have hg := V1.at 0 rfl
  have q1 := V1.bel
  clear V1
  have h1' : ¬ (100 : Int) < (n : Int) := by omega
  have HO : Hid (Mf.Ok ⟨v, s, k, e, l⟩) := ho
  have HBB : Hid (IsB (mfBytes ⟨v, s, k, e, l⟩)) := isB_mf (m := ⟨v, s, k, e, l⟩) ho
  have HBL : Hid ((mfBytes ⟨v, s, k, e, l⟩).length = 24 + 40 * n) := by have h := mfBytes_len (m := ⟨v, s, k, e, l⟩) ho; rw [← hr.hlen]; exact h
  have HSH : Hid (isMf ((mfBytes ⟨v, s, k, e, l⟩).take ((mfBytes ⟨v, s, k, e, l⟩).length - 1)) = false) := short_no (m := ⟨v, s, k, e, l⟩) ho hm
  have HLO : Hid (∀ x, isMf (mfBytes ⟨v, s, k, e, l⟩ ++ [x]) = false) := fun x => long_no (m := ⟨v, s, k, e, l⟩) ho hm x
  go_enter Try.func7, Try.ntmps7
  go_wp2_with fail
  generalize w.alloc (.cells #[.int .i64 v, .int .i64 s, .int .i64 k, .int .i64 e, .slice a n cap] 24) = w1 at *
  refine (mBytes_yes (hr.below q1 (Nat.le_refl _)) ho hm).mono ?_
  rintro e' w2 ⟨u, rfl, own, q2⟩
  obtain ⟨ab, cb, rfl, rb⟩ := row_of_owns own
  clear own
  have hg2 : w2.heap[w.heap.size]? = some (.cells #[.int .i64 v, .int .i64 s, .int .i64 k, .int .i64 e, .slice a n cap] 24 (0, 0)) := by rw [q2.block _ (lt_of_heap hg)]; exact hg
  have c4 : w2.cell? ⟨w.heap.size, 4, none⟩ = some (.slice a n cap) := man_c hg2 4
  have Q2 := btrans q1 q2
  rw [HBL.out] at HSH
  generalize mfBytes ⟨v, s, k, e, l⟩ = B at *
  clear hg hg2 q1 q2 hr HO
  have hcb := rb.hcap
  have hcm := rb.hmax
  unfold maxLen at hcm
  obtain ⟨bb, ob, rfl, hbs, hcell⟩ := rb.hcell (by omega)
  clear hcell
  have HRB : Hid (∀ W, Below w2.heap.size w2 W → Row .u8 W (some ⟨bb, ob, none⟩) (24 + 40 * n) cb B) := fun W q => rb.below q (Nat.le_refl _)
  go_wp2_with fail
  rw [show 24 + 40 * n - 1 = 23 + 40 * n by omega] at HSH
  refine (parse_no (row_take rb (23 + 40 * n) (by omega)) (isB_take HBB.out _) HSH.out).mono ?_
  rintro e' w3 ⟨rfl, q3⟩
  have QB := q3
  have Q3 := btrans Q2 q3
  clear Q2 q3 c4 HSH rb
  have V3 := Vars.start w3
  have hownA := fun w => own_lit w
  go_wp2_with (first
    | (refine wpList_allocV V3 7 24 rfl rfl rfl #[.int .i64 0, .int .i64 0, .int .i64 0, .int .i64 0, .slice none 0 0] zeroMf ?_; intro w4 g4 V4)
    | (refine wpList_storeV V4 0 rfl _ (.tmp 47) rfl rfl rfl #[.int .i64 0, .int .i64 0, .int .i64 0, .int .i64 0, .slice none 0 0] rfl rfl Try.szMf rfl rfl (mf_one 0 0 0 0) ?_; intro w5 V5)
    | (at_builtin; refine wpList_append_row _ rfl _ _ 25 rfl w5.heap.size 5 i0 (.int .u8 0) 1 Try.underlying25 hi0 hz0 hz1 hz2 rfl _ 0 [] rfl (own_lit w5) .u8 (some ⟨bb, ob, none⟩) (24 + 40 * n) cb _ rfl (HRB.out _ (btrans (btrans QB V5.bel) (below_one w5 (.cells #[] 5)))) (by unfold maxLen; omega) (by omega) (by simp) ?_))
  intro v6 w6 own6 hg6
  have q6 : Below w5.heap.size w5 w6 := (below_one w5 (.cells #[] 5)).grown hg6 (by simp) (fun k hk => ((own_lit w5).lt k hk).1)
  replace QB := btrans QB V5.bel
  have Q5 := btrans Q3 V5.bel
  clear hg6 Q3 V3 V4 hownA
  have rn := row_new .u8 w6 5 w6.heap.size rfl [more] 1 rfl (by unfold maxLen; omega) #[.int .u8 more] rfl
  have hs65 : w5.heap.size ≤ w6.heap.size := q6.size
  go_wp2_with (at_builtin; refine wpList_append_gr _ rfl _ _ 25 rfl w5.heap.size 5 i0 (.int .u8 0) Try.underlying25 hi0 hz0 hz1 hz2 rfl rfl (tt := 0) (.inl (own6.alloc _)) (some ⟨w6.heap.size, 0, none⟩) 1 1 [more] rfl rn (by decide) (by omega) (by simp; omega) ?_)
  intro v7 w7 own7 q7 _
  replace own7 : w7.ownsRow w5.heap.size 5 1 v7 (24 + 40 * n + 1) ((B ++ [more]).map (Value.int .u8)) := by rw [List.map_append]; simpa using own7
  obtain ⟨al, cl, rfl, rl⟩ := row_of_owns own7
  have q67 : Below w5.heap.size w6 w7 := ((below_one w6 (.cells #[.int .u8 more] 5)).mono hs65).trans q7
  have q57 : Below w5.heap.size w5 w7 := q6.trans q67
  replace QB := btrans QB q57
  replace Q5 := btrans Q5 q57
  clear q57 q67 q6 q7 own6 own7 V5 rn hs65
  go_wp2_with fail
  refine (parse_no rl (isB_app HBB.out (fun x hx => by cases List.mem_singleton.1 hx; exact hmo)) (HLO.out more)).mono ?_
  rintro e' w8 ⟨rfl, q8⟩
  replace QB := btrans QB q8
  replace Q5 := btrans Q5 q8
  clear rl q8 HLO
  have V8 := Vars.start w8
  go_wp2_with (first
    | (refine wpList_allocV V8 10 24 rfl rfl rfl #[.int .i64 0, .int .i64 0, .int .i64 0, .int .i64 0, .slice none 0 0] zeroMf ?_; intro w9 g9 V9)
    | (refine wpList_storeV V9 0 rfl _ (.tmp 58) rfl rfl rfl #[.int .i64 0, .int .i64 0, .int .i64 0, .int .i64 0, .slice none 0 0] rfl rfl Try.szMf rfl rfl (mf_one 0 0 0 0) ?_; intro w10 V10)
    | (at_builtin; refine wpList_append_row _ rfl _ _ 25 rfl w10.heap.size 5 i0 (.int .u8 0) 1 Try.underlying25 hi0 hz0 hz1 hz2 rfl _ 0 [] rfl (own_lit w10) .u8 (some ⟨bb, ob, none⟩) (24 + 40 * n) cb _ rfl (HRB.out _ (btrans (btrans QB V10.bel) (below_one w10 (.cells #[] 5)))) (by unfold maxLen; omega) (by omega) (by simp) ?_))
  intro v11 w11 own11 hg11
  have q11 : Below w10.heap.size w10 w11 := (below_one w10 (.cells #[] 5)).grown hg11 (by simp) (fun k hk => ((own_lit w10).lt k hk).1)
  replace QB := btrans QB V10.bel
  replace Q5 := btrans Q5 V10.bel
  have hs11 : w10.heap.size ≤ w11.heap.size := q11.size
  have own12 : w11.ownsRow w10.heap.size 5 1 v11 (24 + 40 * n) (B.map (Value.int .u8)) := by simpa using own11
  obtain ⟨a11, c11, rfl, _⟩ := row_of_owns own12
  obtain ⟨g, hgB, rfl⟩ := owns_head own12 (by omega)
  obtain ⟨v12, w12, hrun, own13, hg12⟩ := append_zeros (P := Try.prog) (tn := 3) (ty := 25) (k := 64) Try.underlying25 Try.underlying3 hi0 hz0 hz1 hz2 own12 hs11 (by decide) (by omega)
  have q12 : Below w10.heap.size w11 w12 := (Below.refl _ _).grown hg12 hs11 (fun k hk => by cases hk; exact hgB)
  clear hg11 V8 V9 own11 own12
  go_wp2_with (at_builtin; refine Lib.wpList_append_run _ rfl _ _ _ _ rfl _ _ rfl rfl _ _ hrun ?_)
  clear hrun hg12
  have q1012 : Below w10.heap.size w10 w12 := q11.trans q12
  obtain ⟨az, cz, rfl, rz⟩ := row_of_owns own13
  clear own13 q11
  replace QB := btrans QB q1012
  replace Q5 := btrans Q5 q1012
  clear V10 q12 q1012 hs11
  refine (split_yes rz (by omega)).mono ?_
  rintro e' w13 ⟨u1, u2, rfl, o1, o2, q13⟩
  rw [List.take_left' HBL.out] at o1
  rw [List.drop_left' HBL.out] at o2
  obtain ⟨a1, c1, rfl, r1⟩ := row_of_owns o1
  obtain ⟨a2, c2, rfl, r2⟩ := row_of_owns o2
  have rb := HRB.out _ (btrans QB q13)
  replace Q5 := btrans Q5 q13
  clear o1 o2 rz QB q13 HRB HBB HBL
  go_wp2_with fail
  refine held_begin (by kernel_rfl) ?_
  refine held_call (i := 0) (fuel := 28) (by kernel_rfl) rfl (by rfl) (fun K hK => ?_)
  go_simp
  have qd := Since.drew w13
  replace r1 := r1.below qd (Nat.le_refl _)
  replace r2 := r2.below qd (Nat.le_refl _)
  replace rb := rb.below qd (Nat.le_refl _)
  replace Q5 := btrans Q5 qd
  clear qd
  refine (awake20_any _).mono ?_
  rintro e' w14 ⟨rfl, qq0⟩
  refine hK _ _ (Since.trans (Since.drew _) qq0) ?_
  have qq : Since _ _ := qq0
  clear hK K qq0
  replace r1 := r1.below qq (Nat.le_refl _)
  replace r2 := r2.below qq (Nat.le_refl _)
  replace rb := rb.below qq (Nat.le_refl _)
  replace Q5 := btrans Q5 qq
  clear qq
  refine held_reads (rs := [1, 2, 3, 4, 5, 6, 7, 8, 9, 10, 11, 12, 13, 14, 15, 16, 17, 18, 19, 20, 21, 22, 23]) (fuel := 5) (by kernel_rfl) (fun c d v a w h => by cases d <;> exact h) (by kernel_rfl) (Since.refl _) (fun K hK => ?_)
  go_simp
  refine calm_move _ rfl (by rfl) rfl ?_
  go_simp
  refine calm_move _ rfl (by rfl) rfl ?_
  go_simp
  refine calm_do (.bool true) rfl (by rfl) (fun w' hw' => ?_) ?_
  · go_simp
  go_simp
  refine calm_do (.bool true) rfl (by rfl) (fun w' hw' => ?_) ?_
  · go_simp
  go_simp
  refine calm_move _ rfl (by rfl) rfl ?_
  go_simp
  refine calm_move _ rfl (by rfl) rfl ?_
  go_simp
  refine calm_move _ rfl (by rfl) rfl ?_
  go_simp
  refine calm_do (.bool true) rfl (by rfl) (fun w' hw' => ?_) ?_
  · go_simp
  go_simp
  refine calm_do (.bool true) rfl (by rfl) (fun w' hw' => ?_) ?_
  · go_simp
  go_simp
  refine calm_move _ rfl (by rfl) rfl ?_
  go_simp
  refine calm_move _ rfl (by rfl) rfl ?_
  go_simp
  refine calm_do (.bool true) rfl (by rfl) (fun w' hw' => ?_) ?_
  · go_simp
  go_simp
  refine calm_do (.bool true) rfl (by rfl) (fun w' hw' => ?_) ?_
  · go_simp
  go_simp
  refine calm_move _ rfl (by rfl) rfl ?_
  go_simp
  refine calm_move _ rfl (by rfl) rfl ?_
  go_simp
  refine calm_do (.string (strOfNums (B))) rfl (by rfl) (fun w' hw' => ?_) ?_
  · have hcc := conv_row (P := Try.prog) Try.underlying25 Try.underlying5 Try.underlying9 (r1.below hw' (Nat.le_refl _))
    go_simp
  go_simp
  refine calm_move _ rfl (by rfl) rfl ?_
  go_simp
  refine calm_do (.string (strOfNums (B))) rfl (by rfl) (fun w' hw' => ?_) ?_
  · have hcc := conv_row (P := Try.prog) Try.underlying25 Try.underlying5 Try.underlying9 (rb.below hw' (Nat.le_refl _))
    go_simp
  go_simp
  refine calm_do (.bool true) rfl (by rfl) (fun w' hw' => ?_) ?_
  · go_simp
  go_simp
  refine calm_do (.bool true) rfl (by rfl) (fun w' hw' => ?_) ?_
  · go_simp
  go_simp
  refine calm_move _ rfl (by rfl) rfl ?_
  go_simp
  refine calm_move _ rfl (by rfl) rfl ?_
  go_simp
  refine calm_do (.string (strOfNums (List.replicate 64 0))) rfl (by rfl) (fun w' hw' => ?_) ?_
  · have hcc := conv_row (P := Try.prog) Try.underlying25 Try.underlying5 Try.underlying9 (r2.below hw' (Nat.le_refl _))
    go_simp
  go_simp
  refine calm_nil (hK.out _ ?_)
  clear hK K
  obtain ⟨w15, hrun, own, qq0⟩ := makeZ20 64 64 rfl (by decide) (w14)
  refine held_call (i := 24) (fuel := 4) (by kernel_rfl) rfl (by rfl) (fun K hK => ?_)
  go_simp
  refine hK _ _ (Since.trans (Since.refl _) qq0) ?_
  have qq : Since _ _ := qq0
  clear hK K qq0 hrun
  replace r2 := r2.below qq (Nat.le_refl _)
  replace Q5 := btrans Q5 qq
  clear qq
  obtain ⟨a3, c3, he, r3⟩ := row_of_owns own
  cases he
  clear own
  refine held_reads (rs := [25, 26, 27, 28]) (fuel := 0) (by kernel_rfl) (fun c d v a w h => by cases d <;> exact h) (by kernel_rfl) (Since.refl _) (fun K hK => ?_)
  go_simp
  refine calm_do (.string (strOfNums (List.replicate 64 0))) rfl (by rfl) (fun w' hw' => ?_) ?_
  · have hcc := conv_row (P := Try.prog) Try.underlying25 Try.underlying5 Try.underlying9 (r3.below hw' (Nat.le_refl _))
    go_simp
  go_simp
  refine calm_do (.bool true) rfl (by rfl) (fun w' hw' => ?_) ?_
  · go_simp
  go_simp
  refine calm_do (.bool true) rfl (by rfl) (fun w' hw' => ?_) ?_
  · go_simp
  go_simp
  refine calm_assign _ rfl (by rfl) rfl ?_
  go_simp
  refine calm_nil (hK.out _ ?_)
  clear hK K
  refine wpAnyH_done (by kernel_rfl) ?_ _
  clear r1 r2 r3 rb
  go_wp2_with fail
  go_ret
  exact ⟨rfl, Q5⟩
theorem walk_manifestLengths {v s k e : Int} {a : Option Addr} {n cap : Nat} {l : List Sg} {more : Int} {w : World} (hr : SegRow w a n cap l) (ho : ∀ s ∈ l, s.Ok) (hmo : 0 ≤ more ∧ more ≤ 255) : Calls Try.prog 7 #[.agg #[.int .i64 v, .int .i64 s, .int .i64 k, .int .i64 e, .slice a n cap], .int .u8 more] w fun e' w' => e' = .returned (.bool true) ∧ Below w.heap.size w w' := by
  rcases Nat.lt_or_ge 100 n with h | h
  · exact lens_long h
  rcases hm : mayM ⟨v, s, k, e, l⟩ with _ | _
  · exact lens_no hr ho h hm
  · exact lens_yes hr ho hmo hm
end Go.Proofs.Ytennmhenlhaliaa.N
