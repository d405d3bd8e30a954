/-
  Layer 22, the law SlotsFirst.
-/
import Derived.Test.YtagppgdigabbmaaSlotFace
import Derived.Test.YtagppgdigabbmaaSlotEq
import Derived.Deep.CutRange
namespace Go.Proofs.Ytagppgdigabbmaa.N
open Go.RowKit
set_option linter.unusedVariables false
set_option maxRecDepth 8192

theorem may_n1 {a : So} {t : Int} (ha : okSo a = true) (ht : 0 ≤ t ∧ t ≤ 7) : maySl ⟨1, a, ⟨t, false⟩⟩ = true := by
  have h2 : okSo ⟨t, false⟩ = true := decide_eq_true ht
  simp only [maySl, ha, h2]
  decide
theorem may_n0 {b : So} {t : Int} (ha : okSo b = true) (ht : 0 ≤ t ∧ t ≤ 7) : maySl ⟨0, ⟨t, false⟩, b⟩ = true := by
  have h2 : okSo ⟨t, false⟩ = true := decide_eq_true ht
  simp only [maySl, ha, h2]
  decide
theorem tried_n {t : Int} (h : 0 < t) : triedSo ⟨t, false⟩ = true := by simp [triedSo, h]
theorem tried_z : triedSo ⟨0, false⟩ = false := by decide
theorem try_n1 {a : So} {t : Int} (ha : okSo a = true) (ht : 0 < t ∧ t ≤ 7) : tryS ⟨1, a, ⟨t, false⟩⟩ 1 = ⟨1, a, ⟨t - 1, false⟩⟩ ∧ tryC ⟨1, a, ⟨t, false⟩⟩ 1 = 0 := by
  have hm := may_n1 ha ⟨Int.le_of_lt ht.1, ht.2⟩
  have h2 : triedSo (Sl.two ⟨1, a, ⟨t, false⟩⟩ 1) = true := tried_n ht.1
  refine ⟨?_, ?_⟩
  · rw [tryS, if_pos ⟨hm, by decide, h2⟩]; rfl
  · rw [tryC, if_pos ⟨hm, by decide⟩, if_pos h2]
theorem try_n0 {b : So} {t : Int} (ha : okSo b = true) (ht : 0 < t ∧ t ≤ 7) : tryS ⟨0, ⟨t, false⟩, b⟩ 0 = ⟨0, ⟨t - 1, false⟩, b⟩ ∧ tryC ⟨0, ⟨t, false⟩, b⟩ 0 = 0 := by
  have hm := may_n0 ha ⟨Int.le_of_lt ht.1, ht.2⟩
  have h2 : triedSo (Sl.two ⟨0, ⟨t, false⟩, b⟩ 0) = true := tried_n ht.1
  refine ⟨?_, ?_⟩
  · rw [tryS, if_pos ⟨hm, by decide, h2⟩]; rfl
  · rw [tryC, if_pos ⟨hm, by decide⟩, if_pos h2]
theorem no_n1 {a : So} (ha : okSo a = true) : tryS ⟨1, a, ⟨0, false⟩⟩ 1 = sl0 ∧ tryC ⟨1, a, ⟨0, false⟩⟩ 1 = 240 :=
  ⟨if_neg (fun h => by cases h.2.2), (if_pos ⟨may_n1 ha ⟨by decide, by decide⟩, by decide⟩).trans (if_neg (fun h => by cases h))⟩
theorem no_n0 {b : So} (ha : okSo b = true) : tryS ⟨0, ⟨0, false⟩, b⟩ 0 = sl0 ∧ tryC ⟨0, ⟨0, false⟩, b⟩ 0 = 240 :=
  ⟨if_neg (fun h => by cases h.2.2), (if_pos ⟨may_n0 ha ⟨by decide, by decide⟩, by decide⟩).trans (if_neg (fun h => by cases h))⟩
theorem ord_n1 {a : So} {t : Int} (ht : 0 < t) : ∃ R, orderSl ⟨1, a, ⟨t, false⟩⟩ = 1 :: R ∧ R.length ≤ 1 := by
  have h2 : triedSo (Sl.two ⟨1, a, ⟨t, false⟩⟩ 1) = true := tried_n ht
  refine ⟨if triedSo a then [0] else [], ?_, by split <;> simp⟩
  show (if triedSo (Sl.two ⟨1, a, ⟨t, false⟩⟩ 1) then [1] else []) ++ (if triedSo a then [0] else []) = _
  rw [h2]
  rfl
theorem ord_n0 {b : So} {t : Int} (ht : 0 < t) : ∃ R, orderSl ⟨0, ⟨t, false⟩, b⟩ = 0 :: R ∧ R.length ≤ 1 := by
  have h2 : triedSo (Sl.two ⟨0, ⟨t, false⟩, b⟩ 0) = true := tried_n ht
  refine ⟨if triedSo b then [1] else [], ?_, by split <;> simp⟩
  show (if triedSo (Sl.two ⟨0, ⟨t, false⟩, b⟩ 0) then [0] else []) ++ (if triedSo b then [1] else []) = _
  rw [h2]
  rfl
theorem inst_0 (a b : So) (hm : maySl ⟨0, a, b⟩ = true) : instS ⟨0, a, b⟩ 1 = ⟨1, a, ⟨7, false⟩⟩ ∧ instC ⟨0, a, b⟩ 1 = 0 := ⟨if_pos ⟨hm, by decide, show (1 : Int) ≠ 0 by decide⟩, if_pos ⟨hm, by decide, show (1 : Int) ≠ 0 by decide⟩⟩
theorem inst_1 (a b : So) (hm : maySl ⟨1, a, b⟩ = true) : instS ⟨1, a, b⟩ 0 = ⟨0, ⟨7, false⟩, b⟩ ∧ instC ⟨1, a, b⟩ 0 = 0 := ⟨if_pos ⟨hm, by decide, show (0 : Int) ≠ 1 by decide⟩, if_pos ⟨hm, by decide, show (0 : Int) ≠ 1 by decide⟩⟩
set_option maxHeartbeats 3200000 in
theorem first_0 (w : World) (a b : So) (hm : maySl ⟨0, a, b⟩ = true) : Calls Try.prog 7 #[.agg #[.int .i64 0, .int .i64 a.t, .bool a.g, .int .i64 b.t, .bool b.g]] w fun e w' => e = .returned (.bool true) ∧ Below w.heap.size w w' := by
  have HO := fun w => sOrder_yes (s := ⟨0, a, b⟩) w hm
  obtain ⟨L, hL0⟩ : ∃ L, L = orderSl ⟨0, a, b⟩ := ⟨_, rfl⟩
  have HL : Hid (L = (if triedSo a then [0] else []) ++ (if triedSo b then [1] else [])) := hL0
  have HLN : Hid (L.length ≤ 2) := by show _ ≤ _; rw [HL.out]; split <;> split <;> simp
  rw [← hL0] at HO
  have HI := fun w => sInstall_any ⟨0, a, b⟩ 1 w
  rw [(inst_0 a b hm).1, (inst_0 a b hm).2] at HI
  have HN : Hid (okSo a = true) := by have := hm; simp only [maySl, Bool.and_eq_true] at this; exact this.2.1
  clear hL0 hm
  go_enter Try.func7, Try.ntmps7
  go_wp2_with (first
    | (refine wpList_boxV (Vars.start w) 1 26 (.tmp 0) rfl rfl rfl #[.int .i64 0, .int .i64 a.t, .bool a.g, .int .i64 b.t, .bool b.g] rfl ?_; intro w1 g1 V1)
    | (refine wpList_exec rfl (exec_loadT V1 0 rfl (.tmp 1) rfl rfl Try.underlying26 rfl Try.szSl rfl) ?_))
  refine (HO _).mono ?_
  rintro e w2 ⟨v2, rfl, own, q⟩
  obtain ⟨a2, c2, rfl, r2⟩ := row_of_owns own
  have V2 := V1.call q
  clear q V1 own HO
  go_wp2_with fail
  have hm2 := r2.hmax
  have hc2 := r2.hcap
  unfold maxLen at hm2
  have d0 : w2.cell? ⟨g1, 0, none⟩ = some (.int .i64 0) := man_c (V2.at 0 rfl) 0
  have d1 : w2.cell? ⟨g1, 1, none⟩ = some (.int .i64 a.t) := man_c (V2.at 0 rfl) 1
  have d2 : w2.cell? ⟨g1, 2, none⟩ = some (.bool a.g) := man_c (V2.at 0 rfl) 2
  have d3 : w2.cell? ⟨g1, 3, none⟩ = some (.int .i64 b.t) := man_c (V2.at 0 rfl) 3
  have d4 : w2.cell? ⟨g1, 4, none⟩ = some (.bool b.g) := man_c (V2.at 0 rfl) 4
  go_cut [76] from 27 to 77 (fun v wq => v = .bool false ∧ ∃ nq, wq = w2.drewN nq)
  case first =>
    have hL := HL.out
    clear HL HLN HI HN V2
    cases ta : triedSo a
    · have ha := Bool.or_eq_false_iff.1 (show (a.g || decide (0 < a.t)) = false from ta)
      have ha2 := of_decide_eq_false ha.2
      cases tb : triedSo b
      · obtain rfl : L = [] := by rw [hL, ta, tb]; rfl
        clear hL ta tb ha ha2 r2
        go_quiet (fail)
        go_wp2_with fail
        go_meet
        exact ⟨rfl, _, rfl⟩
      · obtain rfl : L = [1] := by rw [hL, ta, tb]; rfl
        obtain ⟨bb, oo, rfl, hbs, hcell⟩ := r2.hcell (by decide)
        have e0 : w2.cell? ⟨bb, oo, none⟩ = some (.int .i64 1) := hcell 0 (by decide)
        rw [ha.1] at d2
        have ha3 : a.t ≤ 0 := by omega
        have hd : decide (0 < a.t) = false := ha.2
        clear hL ta tb ha ha2 r2 hcell
        go_quiet (fail)
        go_wp2_with fail
        go_meet
        exact ⟨by first | rfl | rw [hd], _, rfl⟩
    · cases tb : triedSo b
      · obtain rfl : L = [0] := by rw [hL, ta, tb]; rfl
        obtain ⟨bb, oo, rfl, hbs, hcell⟩ := r2.hcell (by decide)
        have e0 : w2.cell? ⟨bb, oo, none⟩ = some (.int .i64 0) := hcell 0 (by decide)
        clear hL ta tb r2 hcell
        go_quiet (fail)
        go_wp2_with fail
        go_meet
        exact ⟨rfl, _, rfl⟩
      · obtain rfl : L = [0, 1] := by rw [hL, ta, tb]; rfl
        obtain ⟨bb, oo, rfl, hbs, hcell⟩ := r2.hcell (by decide)
        have e0 : w2.cell? ⟨bb, oo, none⟩ = some (.int .i64 0) := hcell 0 (by decide)
        have e1 : w2.cell? ⟨bb, oo + 1, none⟩ = some (.int .i64 1) := hcell 1 (by decide)
        clear hL ta tb r2 hcell
        go_quiet (fail)
        go_wp2_with fail
        go_meet
        exact ⟨rfl, _, rfl⟩
  obtain ⟨rfl, nq, rfl⟩ := hcut
  replace V2 := V2.drewN nq
  clear r2 hm2 hc2 d0 d1 d2 d3 d4 HL HLN
  generalize w2.drewN nq = w3 at *
  have d0 : w3.cell? ⟨g1, 0, none⟩ = some (.int .i64 0) := man_c (V2.at 0 rfl) 0
  go_wp2_with (refine wpList_exec rfl (exec_loadT V2 0 rfl (.tmp 1) rfl rfl Try.underlying26 rfl Try.szSl rfl) ?_)
  refine (HI _).mono ?_
  rintro e w4 ⟨rfl, q⟩
  have V4 := V2.call q
  clear q V2 d0 HI
  go_wp2_with (first
    | (refine wpList_allocV V4 5 26 rfl rfl rfl #[.int .i64 0, .int .i64 0, .bool false, .int .i64 0, .bool false] zeroSl ?_; intro w5 g5 V5)
    | (refine wpList_storeV V5 0 rfl _ (.tmp 83) rfl rfl rfl #[.int .i64 1, .int .i64 a.t, .bool a.g, .int .i64 7, .bool false] rfl rfl Try.szSl rfl rfl (slX_one _ _ _ _ _) ?_; intro w6 V6))
  replace V6 : Vars w w6 [⟨g5, 26, #[.int .i64 1, .int .i64 a.t, .bool a.g, .int .i64 7, .bool false]⟩] := V6.sub (by simp)
  clear V4 V5
  go_loopw [7] (fun y wr => ∃ j : Nat, j ≤ 7 ∧ y = .int .i64 (j : Int) ∧ Vars w wr [⟨g5, 26, #[.int .i64 1, .int .i64 a.t, .bool a.g, .int .i64 (7 - (j : Int)), .bool false]⟩]) (fun y _ => 7 - (RowKit.intOf y).toNat)
  case atStart => exact ⟨0, Nat.zero_le _, rfl, V6⟩
  case round =>
    clear V6
    obtain ⟨j, hj, rfl, V⟩ := hrel
    by_cases hlt : j < 7
    · have HX : Hid (7 - ((j + 1 : Nat) : Int) = 7 - (j : Int) - 1) := by show _ = _; omega
      obtain ⟨t, ht⟩ : ∃ t, t = 7 - (j : Int) := ⟨_, rfl⟩
      rw [← ht] at V HX
      have ht' : 0 < t ∧ t ≤ 7 := by omega
      have HO := fun w => sOrder_yes (s := ⟨1, a, ⟨t, false⟩⟩) w (may_n1 HN.out ⟨by omega, by omega⟩)
      obtain ⟨R, hR, hRl⟩ := ord_n1 (a := a) ht'.1
      rw [hR] at HO
      have HT := fun w => sTry_any ⟨1, a, ⟨t, false⟩⟩ 1 w
      rw [(try_n1 HN.out ht').1, (try_n1 HN.out ht').2] at HT
      have hlt7 : (j : Int) < 7 := by omega
      clear ht hR
      go_wp2_with (refine wpList_exec rfl (exec_loadT V 0 rfl (.tmp 5) rfl rfl Try.underlying26 rfl Try.szSl rfl) ?_)
      refine (HO _).mono ?_
      rintro e w7 ⟨v7, rfl, own, q⟩
      obtain ⟨a7, c7, rfl, r7⟩ := row_of_owns own
      have V7 := V.call q
      clear q V own HO
      have e0 : ∃ bb oo, a7 = some ⟨bb, oo, none⟩ ∧ w7.cell? ⟨bb, oo, none⟩ = some (.int .i64 1) := by
        obtain ⟨bb, oo, h1, _, h2⟩ := r7.hcell (by simp)
        exact ⟨bb, oo, h1, by simpa using h2 0 (by simp)⟩
      obtain ⟨bb, oo, rfl, e0⟩ := e0
      have hm7 := r7.hmax
      have hc7 := r7.hcap
      unfold maxLen at hm7
      obtain ⟨m, hm⟩ : ∃ m, m = (1 :: R).length := ⟨_, rfl⟩
      rw [← hm] at hc7
      have hm1 : 1 ≤ m ∧ m ≤ 2 := by rw [hm, List.length_cons]; omega
      rw [← hm]
      have hz : ((m : Int) == 0) = false := by simp; omega
      have hz2 : (0 : Int) < (m : Int) := by omega
      have d0 : w7.cell? ⟨g5, 0, none⟩ = some (.int .i64 1) := man_c (V7.at 0 rfl) 0
      clear hm r7
      go_wp2_with fail
      go_quiet (fail)
      replace V7 := V7.drewN nq
      clear e0 d0 hz hz2 hm1 hm7 hc7
      generalize w7.drewN nq = w8 at *
      have d0 : w8.cell? ⟨g5, 0, none⟩ = some (.int .i64 1) := man_c (V7.at 0 rfl) 0
      go_wp2_with (refine wpList_exec rfl (exec_loadT V7 0 rfl (.tmp 5) rfl rfl Try.underlying26 rfl Try.szSl rfl) ?_)
      refine (HT _).mono ?_
      rintro e w9 ⟨rfl, q⟩
      have V9 := V7.call q
      clear q V7 HT d0
      go_wp2_with (first
        | (refine wpList_allocV V9 10 26 rfl rfl rfl #[.int .i64 0, .int .i64 0, .bool false, .int .i64 0, .bool false] zeroSl ?_; intro w10 g10 V10)
        | (refine wpList_storeV V10 0 rfl _ (.tmp 116) rfl rfl rfl #[.int .i64 1, .int .i64 a.t, .bool a.g, .int .i64 (t - 1), .bool false] rfl rfl Try.szSl rfl rfl (slX_one _ _ _ _ _) ?_; intro w11 V11; clear V10)
        | (refine wpList_exec rfl (exec_loadT V11 0 rfl (.tmp 10) rfl rfl Try.underlying26 rfl Try.szSl rfl) ?_)
        | (refine wpList_storeV V11 1 rfl _ (.tmp 120) rfl rfl rfl #[.int .i64 1, .int .i64 a.t, .bool a.g, .int .i64 (t - 1), .bool false] rfl rfl Try.szSl rfl rfl (slX_one _ _ _ _ _) ?_; intro w12 V12))
      replace V12 : Vars w w12 [⟨g5, 26, #[.int .i64 1, .int .i64 a.t, .bool a.g, .int .i64 (t - 1), .bool false]⟩] := V12.del 0
      clear V9 V11
      go_roundw
      case rel => exact ⟨j + 1, by omega, by go_num, by rw [HX.out]; exact V12⟩
      case measure => simp [RowKit.intOf]; omega
    · obtain rfl : j = 7 := by omega
      have HT := fun w => sTry_any ⟨1, a, ⟨0, false⟩⟩ 1 w
      rw [(no_n1 HN.out).1, (no_n1 HN.out).2] at HT
      replace V : Vars w wr [⟨g5, 26, #[.int .i64 1, .int .i64 a.t, .bool a.g, .int .i64 0, .bool false]⟩] := V
      have d0 : wr.cell? ⟨g5, 0, none⟩ = some (.int .i64 1) := man_c (V.at 0 rfl) 0
      go_wp2_with (refine wpList_exec rfl (exec_loadT V 0 rfl (.tmp 5) rfl rfl Try.underlying26 rfl Try.szSl rfl) ?_)
      refine (HT _).mono ?_
      rintro e w9 ⟨rfl, q⟩
      have V9 := V.call q
      clear q V HT d0
      go_wp2_with (first
        | (refine wpList_allocV V9 12 26 rfl rfl rfl #[.int .i64 0, .int .i64 0, .bool false, .int .i64 0, .bool false] zeroSl ?_; intro w10 g10 V10)
        | (refine wpList_storeV V10 0 rfl _ (.tmp 126) rfl rfl rfl #[.int .i64 0, .int .i64 0, .bool false, .int .i64 0, .bool false] rfl rfl Try.szSl rfl rfl (slX_one _ _ _ _ _) ?_; intro w11 V11; clear V10))
      refine (awake22_any _).mono ?_
      rintro e w12 ⟨rfl, q⟩
      have HQ : Hid (Below w.heap.size w w12) := (V11.call q).bel
      clear q V9 V11
      go_wp2_with fail
      go_ret
      exact ⟨rfl, HQ.out⟩
set_option maxHeartbeats 3200000 in
theorem first_1 (w : World) (a b : So) (hm : maySl ⟨1, a, b⟩ = true) : Calls Try.prog 7 #[.agg #[.int .i64 1, .int .i64 a.t, .bool a.g, .int .i64 b.t, .bool b.g]] w fun e w' => e = .returned (.bool true) ∧ Below w.heap.size w w' := by
  have HO := fun w => sOrder_yes (s := ⟨1, a, b⟩) w hm
  obtain ⟨L, hL0⟩ : ∃ L, L = orderSl ⟨1, a, b⟩ := ⟨_, rfl⟩
  have HL : Hid (L = (if triedSo b then [1] else []) ++ (if triedSo a then [0] else [])) := hL0
  have HLN : Hid (L.length ≤ 2) := by show _ ≤ _; rw [HL.out]; split <;> split <;> simp
  rw [← hL0] at HO
  have HI := fun w => sInstall_any ⟨1, a, b⟩ 0 w
  rw [(inst_1 a b hm).1, (inst_1 a b hm).2] at HI
  have HN : Hid (okSo b = true) := by have := hm; simp only [maySl, Bool.and_eq_true] at this; exact this.2.2
  clear hL0 hm
  go_enter Try.func7, Try.ntmps7
  go_wp2_with (first
    | (refine wpList_boxV (Vars.start w) 1 26 (.tmp 0) rfl rfl rfl #[.int .i64 1, .int .i64 a.t, .bool a.g, .int .i64 b.t, .bool b.g] rfl ?_; intro w1 g1 V1)
    | (refine wpList_exec rfl (exec_loadT V1 0 rfl (.tmp 1) rfl rfl Try.underlying26 rfl Try.szSl rfl) ?_))
  refine (HO _).mono ?_
  rintro e w2 ⟨v2, rfl, own, q⟩
  obtain ⟨a2, c2, rfl, r2⟩ := row_of_owns own
  have V2 := V1.call q
  clear q V1 own HO
  go_wp2_with fail
  have hm2 := r2.hmax
  have hc2 := r2.hcap
  unfold maxLen at hm2
  have d0 : w2.cell? ⟨g1, 0, none⟩ = some (.int .i64 1) := man_c (V2.at 0 rfl) 0
  have d1 : w2.cell? ⟨g1, 1, none⟩ = some (.int .i64 a.t) := man_c (V2.at 0 rfl) 1
  have d2 : w2.cell? ⟨g1, 2, none⟩ = some (.bool a.g) := man_c (V2.at 0 rfl) 2
  have d3 : w2.cell? ⟨g1, 3, none⟩ = some (.int .i64 b.t) := man_c (V2.at 0 rfl) 3
  have d4 : w2.cell? ⟨g1, 4, none⟩ = some (.bool b.g) := man_c (V2.at 0 rfl) 4
  go_cut [76] from 27 to 77 (fun v wq => v = .bool false ∧ ∃ nq, wq = w2.drewN nq)
  case first =>
    have hL := HL.out
    clear HL HLN HI HN V2
    cases ta : triedSo b
    · have ha := Bool.or_eq_false_iff.1 (show (b.g || decide (0 < b.t)) = false from ta)
      have ha2 := of_decide_eq_false ha.2
      cases tb : triedSo a
      · obtain rfl : L = [] := by rw [hL, ta, tb]; rfl
        clear hL ta tb ha ha2 r2
        go_quiet (fail)
        go_wp2_with fail
        go_meet
        exact ⟨rfl, _, rfl⟩
      · obtain rfl : L = [0] := by rw [hL, ta, tb]; rfl
        obtain ⟨bb, oo, rfl, hbs, hcell⟩ := r2.hcell (by decide)
        have e0 : w2.cell? ⟨bb, oo, none⟩ = some (.int .i64 0) := hcell 0 (by decide)
        rw [ha.1] at d4
        have ha3 : b.t ≤ 0 := by omega
        have hd : decide (0 < b.t) = false := ha.2
        clear hL ta tb ha ha2 r2 hcell
        go_quiet (fail)
        go_wp2_with fail
        go_meet
        exact ⟨by first | rfl | rw [hd], _, rfl⟩
    · cases tb : triedSo a
      · obtain rfl : L = [1] := by rw [hL, ta, tb]; rfl
        obtain ⟨bb, oo, rfl, hbs, hcell⟩ := r2.hcell (by decide)
        have e0 : w2.cell? ⟨bb, oo, none⟩ = some (.int .i64 1) := hcell 0 (by decide)
        clear hL ta tb r2 hcell
        go_quiet (fail)
        go_wp2_with fail
        go_meet
        exact ⟨rfl, _, rfl⟩
      · obtain rfl : L = [1, 0] := by rw [hL, ta, tb]; rfl
        obtain ⟨bb, oo, rfl, hbs, hcell⟩ := r2.hcell (by decide)
        have e0 : w2.cell? ⟨bb, oo, none⟩ = some (.int .i64 1) := hcell 0 (by decide)
        have e1 : w2.cell? ⟨bb, oo + 1, none⟩ = some (.int .i64 0) := hcell 1 (by decide)
        clear hL ta tb r2 hcell
        go_quiet (fail)
        go_wp2_with fail
        go_meet
        exact ⟨rfl, _, rfl⟩
  obtain ⟨rfl, nq, rfl⟩ := hcut
  replace V2 := V2.drewN nq
  clear r2 hm2 hc2 d0 d1 d2 d3 d4 HL HLN
  generalize w2.drewN nq = w3 at *
  have d0 : w3.cell? ⟨g1, 0, none⟩ = some (.int .i64 1) := man_c (V2.at 0 rfl) 0
  go_wp2_with (refine wpList_exec rfl (exec_loadT V2 0 rfl (.tmp 1) rfl rfl Try.underlying26 rfl Try.szSl rfl) ?_)
  refine (HI _).mono ?_
  rintro e w4 ⟨rfl, q⟩
  have V4 := V2.call q
  clear q V2 d0 HI
  go_wp2_with (first
    | (refine wpList_allocV V4 5 26 rfl rfl rfl #[.int .i64 0, .int .i64 0, .bool false, .int .i64 0, .bool false] zeroSl ?_; intro w5 g5 V5)
    | (refine wpList_storeV V5 0 rfl _ (.tmp 83) rfl rfl rfl #[.int .i64 0, .int .i64 7, .bool false, .int .i64 b.t, .bool b.g] rfl rfl Try.szSl rfl rfl (slX_one _ _ _ _ _) ?_; intro w6 V6))
  replace V6 : Vars w w6 [⟨g5, 26, #[.int .i64 0, .int .i64 7, .bool false, .int .i64 b.t, .bool b.g]⟩] := V6.sub (by simp)
  clear V4 V5
  go_loopw [7] (fun y wr => ∃ j : Nat, j ≤ 7 ∧ y = .int .i64 (j : Int) ∧ Vars w wr [⟨g5, 26, #[.int .i64 0, .int .i64 (7 - (j : Int)), .bool false, .int .i64 b.t, .bool b.g]⟩]) (fun y _ => 7 - (RowKit.intOf y).toNat)
  case atStart => exact ⟨0, Nat.zero_le _, rfl, V6⟩
  case round =>
    clear V6
    obtain ⟨j, hj, rfl, V⟩ := hrel
    by_cases hlt : j < 7
    · have HX : Hid (7 - ((j + 1 : Nat) : Int) = 7 - (j : Int) - 1) := by show _ = _; omega
      obtain ⟨t, ht⟩ : ∃ t, t = 7 - (j : Int) := ⟨_, rfl⟩
      rw [← ht] at V HX
      have ht' : 0 < t ∧ t ≤ 7 := by omega
      have HO := fun w => sOrder_yes (s := ⟨0, ⟨t, false⟩, b⟩) w (may_n0 HN.out ⟨by omega, by omega⟩)
      obtain ⟨R, hR, hRl⟩ := ord_n0 (b := b) ht'.1
      rw [hR] at HO
      have HT := fun w => sTry_any ⟨0, ⟨t, false⟩, b⟩ 0 w
      rw [(try_n0 HN.out ht').1, (try_n0 HN.out ht').2] at HT
      have hlt7 : (j : Int) < 7 := by omega
      clear ht hR
      go_wp2_with (refine wpList_exec rfl (exec_loadT V 0 rfl (.tmp 5) rfl rfl Try.underlying26 rfl Try.szSl rfl) ?_)
      refine (HO _).mono ?_
      rintro e w7 ⟨v7, rfl, own, q⟩
      obtain ⟨a7, c7, rfl, r7⟩ := row_of_owns own
      have V7 := V.call q
      clear q V own HO
      have e0 : ∃ bb oo, a7 = some ⟨bb, oo, none⟩ ∧ w7.cell? ⟨bb, oo, none⟩ = some (.int .i64 0) := by
        obtain ⟨bb, oo, h1, _, h2⟩ := r7.hcell (by simp)
        exact ⟨bb, oo, h1, by simpa using h2 0 (by simp)⟩
      obtain ⟨bb, oo, rfl, e0⟩ := e0
      have hm7 := r7.hmax
      have hc7 := r7.hcap
      unfold maxLen at hm7
      obtain ⟨m, hm⟩ : ∃ m, m = (0 :: R).length := ⟨_, rfl⟩
      rw [← hm] at hc7
      have hm1 : 1 ≤ m ∧ m ≤ 2 := by rw [hm, List.length_cons]; omega
      rw [← hm]
      have hz : ((m : Int) == 0) = false := by simp; omega
      have hz2 : (0 : Int) < (m : Int) := by omega
      have d0 : w7.cell? ⟨g5, 0, none⟩ = some (.int .i64 0) := man_c (V7.at 0 rfl) 0
      clear hm r7
      go_wp2_with fail
      go_quiet (fail)
      replace V7 := V7.drewN nq
      clear e0 d0 hz hz2 hm1 hm7 hc7
      generalize w7.drewN nq = w8 at *
      have d0 : w8.cell? ⟨g5, 0, none⟩ = some (.int .i64 0) := man_c (V7.at 0 rfl) 0
      go_wp2_with (refine wpList_exec rfl (exec_loadT V7 0 rfl (.tmp 5) rfl rfl Try.underlying26 rfl Try.szSl rfl) ?_)
      refine (HT _).mono ?_
      rintro e w9 ⟨rfl, q⟩
      have V9 := V7.call q
      clear q V7 HT d0
      go_wp2_with (first
        | (refine wpList_allocV V9 10 26 rfl rfl rfl #[.int .i64 0, .int .i64 0, .bool false, .int .i64 0, .bool false] zeroSl ?_; intro w10 g10 V10)
        | (refine wpList_storeV V10 0 rfl _ (.tmp 116) rfl rfl rfl #[.int .i64 0, .int .i64 (t - 1), .bool false, .int .i64 b.t, .bool b.g] rfl rfl Try.szSl rfl rfl (slX_one _ _ _ _ _) ?_; intro w11 V11; clear V10)
        | (refine wpList_exec rfl (exec_loadT V11 0 rfl (.tmp 10) rfl rfl Try.underlying26 rfl Try.szSl rfl) ?_)
        | (refine wpList_storeV V11 1 rfl _ (.tmp 120) rfl rfl rfl #[.int .i64 0, .int .i64 (t - 1), .bool false, .int .i64 b.t, .bool b.g] rfl rfl Try.szSl rfl rfl (slX_one _ _ _ _ _) ?_; intro w12 V12))
      replace V12 : Vars w w12 [⟨g5, 26, #[.int .i64 0, .int .i64 (t - 1), .bool false, .int .i64 b.t, .bool b.g]⟩] := V12.del 0
      clear V9 V11
      go_roundw
      case rel => exact ⟨j + 1, by omega, by go_num, by rw [HX.out]; exact V12⟩
      case measure => simp [RowKit.intOf]; omega
    · obtain rfl : j = 7 := by omega
      have HT := fun w => sTry_any ⟨0, ⟨0, false⟩, b⟩ 0 w
      rw [(no_n0 HN.out).1, (no_n0 HN.out).2] at HT
      replace V : Vars w wr [⟨g5, 26, #[.int .i64 0, .int .i64 0, .bool false, .int .i64 b.t, .bool b.g]⟩] := V
      have d0 : wr.cell? ⟨g5, 0, none⟩ = some (.int .i64 0) := man_c (V.at 0 rfl) 0
      go_wp2_with (refine wpList_exec rfl (exec_loadT V 0 rfl (.tmp 5) rfl rfl Try.underlying26 rfl Try.szSl rfl) ?_)
      refine (HT _).mono ?_
      rintro e w9 ⟨rfl, q⟩
      have V9 := V.call q
      clear q V HT d0
      go_wp2_with (first
        | (refine wpList_allocV V9 12 26 rfl rfl rfl #[.int .i64 0, .int .i64 0, .bool false, .int .i64 0, .bool false] zeroSl ?_; intro w10 g10 V10)
        | (refine wpList_storeV V10 0 rfl _ (.tmp 126) rfl rfl rfl #[.int .i64 0, .int .i64 0, .bool false, .int .i64 0, .bool false] rfl rfl Try.szSl rfl rfl (slX_one _ _ _ _ _) ?_; intro w11 V11; clear V10))
      refine (awake22_any _).mono ?_
      rintro e w12 ⟨rfl, q⟩
      have HQ : Hid (Below w.heap.size w w12) := (V11.call q).bel
      clear q V9 V11
      go_wp2_with fail
      go_ret
      exact ⟨rfl, HQ.out⟩
set_option maxHeartbeats 1600000 in
theorem walk_slotsFirst (w : World) (s : Sl) : Calls Try.prog 7 #[.agg #[.int .i64 s.f, .int .i64 s.a.t, .bool s.a.g, .int .i64 s.b.t, .bool s.b.g]] w fun e w' => e = .returned (.bool true) ∧ Below w.heap.size w w' := by
  cases hm : maySl s
  · have HO := fun w => sOrder_no (s := s) w hm
    go_enter Try.func7, Try.ntmps7
    go_wp2_with (first
      | (refine wpList_boxV (Vars.start w) 1 26 (.tmp 0) rfl rfl rfl #[.int .i64 s.f, .int .i64 s.a.t, .bool s.a.g, .int .i64 s.b.t, .bool s.b.g] rfl ?_; intro w1 g1 V1)
      | (refine wpList_exec rfl (exec_loadT V1 0 rfl (.tmp 1) rfl rfl Try.underlying26 rfl Try.szSl rfl) ?_))
    refine (HO _).mono ?_
    rintro e w2 ⟨rfl, q⟩
    have V2 := V1.call q
    clear q V1 HO
    go_wp2_with fail
    refine (awake22_any _).mono ?_
    rintro e w3 ⟨rfl, q⟩
    have HQ : Hid (Below w.heap.size w w3) := (V2.call q).bel
    clear q V2
    go_wp2_with fail
    go_ret
    exact ⟨rfl, HQ.out⟩
  · obtain ⟨f, a, b⟩ := s
    obtain rfl | rfl := (maySl_of hm).1
    · exact first_0 w a b hm
    · exact first_1 w a b hm
end Go.Proofs.Ytagppgdigabbmaa.N
