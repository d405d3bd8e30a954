/-
  The document's answer for layer 22 (casemateref22): Confirm, Install, Try.
-/
import Derived.Test.YtagppgdigabbmaaSlotRef
import Derived.Test.YtagppgdigabbmaaSlotCode6
namespace Go.Proofs.Ytagppgdigabbmaa.N
open Go.RowKit
set_option linter.unusedVariables false
set_option maxRecDepth 8192

theorem is01_in {i : Int} (h0 : ¬ i < 0) (h1 : ¬ 1 < i) : is01 i = true := decide_eq_true ⟨by omega, by omega⟩
set_option maxHeartbeats 1600000 in
theorem refConfirm22 (s : Sl) (i : Int) (w : World) : Calls Try.prog 15 #[.agg #[.int .i64 s.f, .int .i64 s.a.t, .bool s.a.g, .int .i64 s.b.t, .bool s.b.g], .int .i64 i] w fun e w' => e = .returned (.tuple #[.agg #[.int .i64 (confS s i).f, .int .i64 (confS s i).a.t, .bool (confS s i).a.g, .int .i64 (confS s i).b.t, .bool (confS s i).b.g], .int .i64 (confC s i)]) ∧ Below w.heap.size w w' := by
  by_cases ho : maySl s = true ∧ is01 i = true
  · have HS : Hid (confS s i = ⟨i, (s.put i ⟨0, true⟩).a, (s.put i ⟨0, true⟩).b⟩) := put_conf s i ho.1 ho.2
    have HE : Hid (confC s i = 0) := if_pos ho
    have HM := ho.1
    obtain rfl | rfl := is01_of ho.2
    · clear ho
      go_enter Try.func15, Try.ntmps15
      go_wp2_with fail
      refine (refMay22 s _).mono ?_
      rintro e w1 ⟨rfl, q1⟩
      have V1 := two_slots w s q1
      rw [HM]
      obtain ⟨c0, c1, c2, c3, c4⟩ := sbox_of (V1.at 1 rfl)
      have f0 := arr_unfrozen (V1.at 1 rfl) 0
      have f1 := arr_unfrozen (V1.at 1 rfl) 1
      have f2 := arr_unfrozen (V1.at 1 rfl) 2
      have V2 : Vars w (((w1.setCell ⟨w.heap.size, 0, none⟩ (.int .i64 0)).setCell ⟨w.heap.size, 1, none⟩ (.int .i64 0)).setCell ⟨w.heap.size, 2, none⟩ (.bool true)) [⟨w.heap.size + 1, 26, #[.int .i64 0, .int .i64 0, .bool false, .int .i64 0, .bool false]⟩, ⟨w.heap.size, 26, #[.int .i64 0, .int .i64 0, .bool true, .int .i64 s.b.t, .bool s.b.g]⟩] := ((V1.put 1 rfl 0 (.int .i64 0)).put 1 rfl 1 (.int .i64 0)).put 1 rfl 2 (.bool true)
      clear q1 V1
      go_wp2_with (refine wpList_storeV V2 0 rfl _ (.tmp 24) rfl rfl rfl #[.int .i64 0, .int .i64 0, .bool true, .int .i64 s.b.t, .bool s.b.g] rfl rfl Try.szSl rfl rfl (slX_one _ _ _ _ _) ?_; intro w4 V4)
      exact bodyPost_ret (resT2 rfl _ V4 0 rfl rfl Try.underlying26 Try.szSl rfl) rfl ⟨by rw [HS.out, HE.out]; rfl, V4.bel⟩
    · clear ho
      go_enter Try.func15, Try.ntmps15
      go_wp2_with fail
      refine (refMay22 s _).mono ?_
      rintro e w1 ⟨rfl, q1⟩
      have V1 := two_slots w s q1
      rw [HM]
      obtain ⟨c0, c1, c2, c3, c4⟩ := sbox_of (V1.at 1 rfl)
      have f0 := arr_unfrozen (V1.at 1 rfl) 0
      have f3 := arr_unfrozen (V1.at 1 rfl) 3
      have f4 := arr_unfrozen (V1.at 1 rfl) 4
      have V2 : Vars w (((w1.setCell ⟨w.heap.size, 0, none⟩ (.int .i64 1)).setCell ⟨w.heap.size, 3, none⟩ (.int .i64 0)).setCell ⟨w.heap.size, 4, none⟩ (.bool true)) [⟨w.heap.size + 1, 26, #[.int .i64 0, .int .i64 0, .bool false, .int .i64 0, .bool false]⟩, ⟨w.heap.size, 26, #[.int .i64 1, .int .i64 s.a.t, .bool s.a.g, .int .i64 0, .bool true]⟩] := ((V1.put 1 rfl 0 (.int .i64 1)).put 1 rfl 3 (.int .i64 0)).put 1 rfl 4 (.bool true)
      clear q1 V1
      go_wp2_with (refine wpList_storeV V2 0 rfl _ (.tmp 24) rfl rfl rfl #[.int .i64 1, .int .i64 s.a.t, .bool s.a.g, .int .i64 0, .bool true] rfl rfl Try.szSl rfl rfl (slX_one _ _ _ _ _) ?_; intro w4 V4)
      exact bodyPost_ret (resT2 rfl _ V4 0 rfl rfl Try.underlying26 Try.szSl rfl) rfl ⟨by rw [HS.out, HE.out]; rfl, V4.bel⟩
  · have HS : Hid (confS s i = sl0) := if_neg ho
    have HE : Hid (confC s i = 1) := if_neg ho
    go_enter Try.func15, Try.ntmps15
    go_wp2_with fail
    refine (refMay22 s _).mono ?_
    rintro e w1 ⟨rfl, q1⟩
    have V1 := two_slots w s q1
    clear q1
    cases hm : maySl s
    · go_wp2_with (refine wpList_storeV V1 0 rfl _ (.tmp 17) rfl rfl rfl #[.int .i64 0, .int .i64 0, .bool false, .int .i64 0, .bool false] rfl rfl Try.szSl rfl rfl (slX_one _ _ _ _ _) ?_; intro w4 V4)
      exact bodyPost_ret (resT2 rfl _ V4 0 rfl rfl Try.underlying26 Try.szSl rfl) rfl ⟨by rw [HS.out, HE.out]; rfl, V4.bel⟩
    by_cases h0 : i < 0
    · clear ho
      go_wp2_with (refine wpList_storeV V1 0 rfl _ (.tmp 17) rfl rfl rfl #[.int .i64 0, .int .i64 0, .bool false, .int .i64 0, .bool false] rfl rfl Try.szSl rfl rfl (slX_one _ _ _ _ _) ?_; intro w4 V4)
      exact bodyPost_ret (resT2 rfl _ V4 0 rfl rfl Try.underlying26 Try.szSl rfl) rfl ⟨by rw [HS.out, HE.out]; rfl, V4.bel⟩
    by_cases h1 : 1 < i
    · clear ho
      go_wp2_with (refine wpList_storeV V1 0 rfl _ (.tmp 17) rfl rfl rfl #[.int .i64 0, .int .i64 0, .bool false, .int .i64 0, .bool false] rfl rfl Try.szSl rfl rfl (slX_one _ _ _ _ _) ?_; intro w4 V4)
      exact bodyPost_ret (resT2 rfl _ V4 0 rfl rfl Try.underlying26 Try.szSl rfl) rfl ⟨by rw [HS.out, HE.out]; rfl, V4.bel⟩
    exact absurd ⟨hm, is01_in h0 h1⟩ ho
set_option maxHeartbeats 1600000 in
theorem refInstall22 (s : Sl) (i : Int) (w : World) : Calls Try.prog 16 #[.agg #[.int .i64 s.f, .int .i64 s.a.t, .bool s.a.g, .int .i64 s.b.t, .bool s.b.g], .int .i64 i] w fun e w' => e = .returned (.tuple #[.agg #[.int .i64 (instS s i).f, .int .i64 (instS s i).a.t, .bool (instS s i).a.g, .int .i64 (instS s i).b.t, .bool (instS s i).b.g], .int .i64 (instC s i)]) ∧ Below w.heap.size w w' := by
  by_cases ho : maySl s = true ∧ is01 i = true ∧ i ≠ s.f
  · have HS : Hid (instS s i = ⟨i, (s.put i ⟨7, false⟩).a, (s.put i ⟨7, false⟩).b⟩) := if_pos ho
    have HE : Hid (instC s i = 0) := if_pos ho
    have HM := ho.1
    have HNE : Hid ((i == s.f) = false) := by show _ = _; simpa using ho.2.2
    obtain rfl | rfl := is01_of ho.2.1
    · clear ho
      go_enter Try.func16, Try.ntmps16
      go_wp2_with fail
      refine (refMay22 s _).mono ?_
      rintro e w1 ⟨rfl, q1⟩
      have V1 := two_slots w s q1
      rw [HM]
      obtain ⟨c0, c1, c2, c3, c4⟩ := sbox_of (V1.at 1 rfl)
      have f0 := arr_unfrozen (V1.at 1 rfl) 0
      have f1 := arr_unfrozen (V1.at 1 rfl) 1
      have f2 := arr_unfrozen (V1.at 1 rfl) 2
      have V2 : Vars w (((w1.setCell ⟨w.heap.size, 0, none⟩ (.int .i64 0)).setCell ⟨w.heap.size, 1, none⟩ (.int .i64 7)).setCell ⟨w.heap.size, 2, none⟩ (.bool false)) [⟨w.heap.size + 1, 26, #[.int .i64 0, .int .i64 0, .bool false, .int .i64 0, .bool false]⟩, ⟨w.heap.size, 26, #[.int .i64 0, .int .i64 7, .bool false, .int .i64 s.b.t, .bool s.b.g]⟩] := ((V1.put 1 rfl 0 (.int .i64 0)).put 1 rfl 1 (.int .i64 7)).put 1 rfl 2 (.bool false)
      have hne : ((0 : Int) == s.f) = false := HNE.out
      clear q1 V1
      go_wp2_with (refine wpList_storeV V2 0 rfl _ (.tmp 30) rfl rfl rfl #[.int .i64 0, .int .i64 7, .bool false, .int .i64 s.b.t, .bool s.b.g] rfl rfl Try.szSl rfl rfl (slX_one _ _ _ _ _) ?_; intro w4 V4)
      exact bodyPost_ret (resT2 rfl _ V4 0 rfl rfl Try.underlying26 Try.szSl rfl) rfl ⟨by rw [HS.out, HE.out]; rfl, V4.bel⟩
    · clear ho
      go_enter Try.func16, Try.ntmps16
      go_wp2_with fail
      refine (refMay22 s _).mono ?_
      rintro e w1 ⟨rfl, q1⟩
      have V1 := two_slots w s q1
      rw [HM]
      obtain ⟨c0, c1, c2, c3, c4⟩ := sbox_of (V1.at 1 rfl)
      have f0 := arr_unfrozen (V1.at 1 rfl) 0
      have f3 := arr_unfrozen (V1.at 1 rfl) 3
      have f4 := arr_unfrozen (V1.at 1 rfl) 4
      have V2 : Vars w (((w1.setCell ⟨w.heap.size, 0, none⟩ (.int .i64 1)).setCell ⟨w.heap.size, 3, none⟩ (.int .i64 7)).setCell ⟨w.heap.size, 4, none⟩ (.bool false)) [⟨w.heap.size + 1, 26, #[.int .i64 0, .int .i64 0, .bool false, .int .i64 0, .bool false]⟩, ⟨w.heap.size, 26, #[.int .i64 1, .int .i64 s.a.t, .bool s.a.g, .int .i64 7, .bool false]⟩] := ((V1.put 1 rfl 0 (.int .i64 1)).put 1 rfl 3 (.int .i64 7)).put 1 rfl 4 (.bool false)
      have hne : ((1 : Int) == s.f) = false := HNE.out
      clear q1 V1
      go_wp2_with (refine wpList_storeV V2 0 rfl _ (.tmp 30) rfl rfl rfl #[.int .i64 1, .int .i64 s.a.t, .bool s.a.g, .int .i64 7, .bool false] rfl rfl Try.szSl rfl rfl (slX_one _ _ _ _ _) ?_; intro w4 V4)
      exact bodyPost_ret (resT2 rfl _ V4 0 rfl rfl Try.underlying26 Try.szSl rfl) rfl ⟨by rw [HS.out, HE.out]; rfl, V4.bel⟩
  · have HS : Hid (instS s i = sl0) := if_neg ho
    have HE : Hid (instC s i = 1) := if_neg ho
    go_enter Try.func16, Try.ntmps16
    go_wp2_with fail
    refine (refMay22 s _).mono ?_
    rintro e w1 ⟨rfl, q1⟩
    have V1 := two_slots w s q1
    clear q1
    cases hm : maySl s
    · go_wp2_with (refine wpList_storeV V1 0 rfl _ (.tmp 23) rfl rfl rfl #[.int .i64 0, .int .i64 0, .bool false, .int .i64 0, .bool false] rfl rfl Try.szSl rfl rfl (slX_one _ _ _ _ _) ?_; intro w4 V4)
      exact bodyPost_ret (resT2 rfl _ V4 0 rfl rfl Try.underlying26 Try.szSl rfl) rfl ⟨by rw [HS.out, HE.out]; rfl, V4.bel⟩
    by_cases h0 : i < 0
    · clear ho
      go_wp2_with (refine wpList_storeV V1 0 rfl _ (.tmp 23) rfl rfl rfl #[.int .i64 0, .int .i64 0, .bool false, .int .i64 0, .bool false] rfl rfl Try.szSl rfl rfl (slX_one _ _ _ _ _) ?_; intro w4 V4)
      exact bodyPost_ret (resT2 rfl _ V4 0 rfl rfl Try.underlying26 Try.szSl rfl) rfl ⟨by rw [HS.out, HE.out]; rfl, V4.bel⟩
    by_cases h1 : 1 < i
    · clear ho
      go_wp2_with (refine wpList_storeV V1 0 rfl _ (.tmp 23) rfl rfl rfl #[.int .i64 0, .int .i64 0, .bool false, .int .i64 0, .bool false] rfl rfl Try.szSl rfl rfl (slX_one _ _ _ _ _) ?_; intro w4 V4)
      exact bodyPost_ret (resT2 rfl _ V4 0 rfl rfl Try.underlying26 Try.szSl rfl) rfl ⟨by rw [HS.out, HE.out]; rfl, V4.bel⟩
    have hef : i = s.f := Decidable.byContradiction fun h => ho ⟨hm, is01_in h0 h1, h⟩
    have heq : (i == s.f) = true := by simpa using hef
    obtain ⟨c0, c1, c2, c3, c4⟩ := sbox_of (V1.at 1 rfl)
    clear hef ho
    go_wp2_with (refine wpList_storeV V1 0 rfl _ (.tmp 23) rfl rfl rfl #[.int .i64 0, .int .i64 0, .bool false, .int .i64 0, .bool false] rfl rfl Try.szSl rfl rfl (slX_one _ _ _ _ _) ?_; intro w4 V4)
    exact bodyPost_ret (resT2 rfl _ V4 0 rfl rfl Try.underlying26 Try.szSl rfl) rfl ⟨by rw [HS.out, HE.out]; rfl, V4.bel⟩
set_option maxHeartbeats 1600000 in
theorem refTry22 (s : Sl) (i : Int) (w : World) : Calls Try.prog 14 #[.agg #[.int .i64 s.f, .int .i64 s.a.t, .bool s.a.g, .int .i64 s.b.t, .bool s.b.g], .int .i64 i] w fun e w' => e = .returned (.tuple #[.agg #[.int .i64 (tryS s i).f, .int .i64 (tryS s i).a.t, .bool (tryS s i).a.g, .int .i64 (tryS s i).b.t, .bool (tryS s i).b.g], .int .i64 (tryC s i)]) ∧ Below w.heap.size w w' := by
  by_cases ho : maySl s = true ∧ is01 i = true
  · rcases is01_of ho.2 with rfl | rfl
    · have HV : Hid (0 ≤ s.a.t ∧ s.a.t ≤ 7) := (maySl_of ho.1).2.1
      have HS : Hid (tryS s 0 = if triedSo s.a then (if s.a.g then s else s.put 0 ⟨s.a.t - 1, false⟩) else sl0) := by
        show _ = _
        rw [tryS, show s.two 0 = s.a from rfl]
        by_cases ht : triedSo s.a = true
        · rw [if_pos ⟨ho.1, ho.2, ht⟩, if_pos ht]
        · rw [if_neg (fun h => ht h.2.2), if_neg ht]
      have HE : Hid (tryC s 0 = if triedSo s.a then 0 else 240) := if_pos ho
      have HM := ho.1
      have HT := refTried22 s 0 ho.2
      rw [show s.two 0 = s.a from rfl] at HT
      clear ho
      go_enter Try.func14, Try.ntmps14
      go_wp2_with fail
      refine (refMay22 s _).mono ?_
      rintro e w1 ⟨rfl, q1⟩
      have V1 := two_slots w s q1
      rw [HM]
      obtain ⟨c0, c1, c2, c3, c4⟩ := sbox_of (V1.at 1 rfl)
      clear q1
      go_wp2_with fail
      refine (HT _).mono ?_
      rintro e w2 ⟨rfl, q2⟩
      have V2 := V1.call q2
      clear q2 V1 c0 c1 c2 c3 c4 HT
      cases ht : triedSo s.a
      · rw [ht] at HS HE
        go_wp2_with (refine wpList_storeV V2 0 rfl _ (.tmp 22) rfl rfl rfl #[.int .i64 0, .int .i64 0, .bool false, .int .i64 0, .bool false] rfl rfl Try.szSl rfl rfl (slX_one _ _ _ _ _) ?_; intro w4 V4)
        exact bodyPost_ret (resT2 rfl _ V4 0 rfl rfl Try.underlying26 Try.szSl rfl) rfl ⟨by rw [HS.out, HE.out]; rfl, V4.bel⟩
      · rw [ht] at HS HE
        obtain ⟨c0, c1, c2, c3, c4⟩ := sbox_of (V2.at 1 rfl)
        cases hg : s.a.g
        · rw [hg] at c2 HS V2
          have hv := HV.out
          have f1 := arr_unfrozen (V2.at 1 rfl) 1
          have V3 : Vars w (w2.setCell ⟨w.heap.size, 1, none⟩ (.int .i64 (s.a.t - 1))) [⟨w.heap.size + 1, 26, #[.int .i64 0, .int .i64 0, .bool false, .int .i64 0, .bool false]⟩, ⟨w.heap.size, 26, #[.int .i64 s.f, .int .i64 (s.a.t - 1), .bool false, .int .i64 s.b.t, .bool s.b.g]⟩] := V2.put 1 rfl 1 (.int .i64 (s.a.t - 1))
          go_wp2_with (refine wpList_storeV V3 0 rfl _ (.tmp 38) rfl rfl rfl #[.int .i64 s.f, .int .i64 (s.a.t - 1), .bool false, .int .i64 s.b.t, .bool s.b.g] rfl rfl Try.szSl rfl rfl (slX_one _ _ _ _ _) ?_; intro w4 V4)
          exact bodyPost_ret (resT2 rfl _ V4 0 rfl rfl Try.underlying26 Try.szSl rfl) rfl ⟨by rw [HS.out, HE.out]; rfl, V4.bel⟩
        · rw [hg] at c2 HS V2
          go_wp2_with (refine wpList_storeV V2 0 rfl _ (.tmp 38) rfl rfl rfl #[.int .i64 s.f, .int .i64 s.a.t, .bool true, .int .i64 s.b.t, .bool s.b.g] rfl rfl Try.szSl rfl rfl (slX_one _ _ _ _ _) ?_; intro w4 V4)
          exact bodyPost_ret (resT2 rfl _ V4 0 rfl rfl Try.underlying26 Try.szSl rfl) rfl ⟨by rw [HS.out, HE.out, if_pos trivial, if_pos trivial, if_pos trivial, hg]; rfl, V4.bel⟩
    · have HV : Hid (0 ≤ s.b.t ∧ s.b.t ≤ 7) := (maySl_of ho.1).2.2
      have HS : Hid (tryS s 1 = if triedSo s.b then (if s.b.g then s else s.put 1 ⟨s.b.t - 1, false⟩) else sl0) := by
        show _ = _
        rw [tryS, show s.two 1 = s.b from rfl]
        by_cases ht : triedSo s.b = true
        · rw [if_pos ⟨ho.1, ho.2, ht⟩, if_pos ht]
        · rw [if_neg (fun h => ht h.2.2), if_neg ht]
      have HE : Hid (tryC s 1 = if triedSo s.b then 0 else 240) := if_pos ho
      have HM := ho.1
      have HT := refTried22 s 1 ho.2
      rw [show s.two 1 = s.b from rfl] at HT
      clear ho
      go_enter Try.func14, Try.ntmps14
      go_wp2_with fail
      refine (refMay22 s _).mono ?_
      rintro e w1 ⟨rfl, q1⟩
      have V1 := two_slots w s q1
      rw [HM]
      obtain ⟨c0, c1, c2, c3, c4⟩ := sbox_of (V1.at 1 rfl)
      clear q1
      go_wp2_with fail
      refine (HT _).mono ?_
      rintro e w2 ⟨rfl, q2⟩
      have V2 := V1.call q2
      clear q2 V1 c0 c1 c2 c3 c4 HT
      cases ht : triedSo s.b
      · rw [ht] at HS HE
        go_wp2_with (refine wpList_storeV V2 0 rfl _ (.tmp 22) rfl rfl rfl #[.int .i64 0, .int .i64 0, .bool false, .int .i64 0, .bool false] rfl rfl Try.szSl rfl rfl (slX_one _ _ _ _ _) ?_; intro w4 V4)
        exact bodyPost_ret (resT2 rfl _ V4 0 rfl rfl Try.underlying26 Try.szSl rfl) rfl ⟨by rw [HS.out, HE.out]; rfl, V4.bel⟩
      · rw [ht] at HS HE
        obtain ⟨c0, c1, c2, c3, c4⟩ := sbox_of (V2.at 1 rfl)
        cases hg : s.b.g
        · rw [hg] at c4 HS V2
          have hv := HV.out
          have f3 := arr_unfrozen (V2.at 1 rfl) 3
          have V3 : Vars w (w2.setCell ⟨w.heap.size, 3, none⟩ (.int .i64 (s.b.t - 1))) [⟨w.heap.size + 1, 26, #[.int .i64 0, .int .i64 0, .bool false, .int .i64 0, .bool false]⟩, ⟨w.heap.size, 26, #[.int .i64 s.f, .int .i64 s.a.t, .bool s.a.g, .int .i64 (s.b.t - 1), .bool false]⟩] := V2.put 1 rfl 3 (.int .i64 (s.b.t - 1))
          go_wp2_with (refine wpList_storeV V3 0 rfl _ (.tmp 38) rfl rfl rfl #[.int .i64 s.f, .int .i64 s.a.t, .bool s.a.g, .int .i64 (s.b.t - 1), .bool false] rfl rfl Try.szSl rfl rfl (slX_one _ _ _ _ _) ?_; intro w4 V4)
          exact bodyPost_ret (resT2 rfl _ V4 0 rfl rfl Try.underlying26 Try.szSl rfl) rfl ⟨by rw [HS.out, HE.out]; rfl, V4.bel⟩
        · rw [hg] at c4 HS V2
          go_wp2_with (refine wpList_storeV V2 0 rfl _ (.tmp 38) rfl rfl rfl #[.int .i64 s.f, .int .i64 s.a.t, .bool s.a.g, .int .i64 s.b.t, .bool true] rfl rfl Try.szSl rfl rfl (slX_one _ _ _ _ _) ?_; intro w4 V4)
          exact bodyPost_ret (resT2 rfl _ V4 0 rfl rfl Try.underlying26 Try.szSl rfl) rfl ⟨by rw [HS.out, HE.out, if_pos trivial, if_pos trivial, if_pos trivial, hg]; rfl, V4.bel⟩
  · have HS : Hid (tryS s i = sl0) := if_neg fun h => ho ⟨h.1, h.2.1⟩
    have HE : Hid (tryC s i = 1) := if_neg ho
    go_enter Try.func14, Try.ntmps14
    go_wp2_with fail
    refine (refMay22 s _).mono ?_
    rintro e w1 ⟨rfl, q1⟩
    have V1 := two_slots w s q1
    clear q1
    cases hm : maySl s
    · go_wp2_with (refine wpList_storeV V1 0 rfl _ (.tmp 17) rfl rfl rfl #[.int .i64 0, .int .i64 0, .bool false, .int .i64 0, .bool false] rfl rfl Try.szSl rfl rfl (slX_one _ _ _ _ _) ?_; intro w4 V4)
      exact bodyPost_ret (resT2 rfl _ V4 0 rfl rfl Try.underlying26 Try.szSl rfl) rfl ⟨by rw [HS.out, HE.out]; rfl, V4.bel⟩
    by_cases h0 : i < 0
    · clear ho
      go_wp2_with (refine wpList_storeV V1 0 rfl _ (.tmp 17) rfl rfl rfl #[.int .i64 0, .int .i64 0, .bool false, .int .i64 0, .bool false] rfl rfl Try.szSl rfl rfl (slX_one _ _ _ _ _) ?_; intro w4 V4)
      exact bodyPost_ret (resT2 rfl _ V4 0 rfl rfl Try.underlying26 Try.szSl rfl) rfl ⟨by rw [HS.out, HE.out]; rfl, V4.bel⟩
    by_cases h1 : 1 < i
    · clear ho
      go_wp2_with (refine wpList_storeV V1 0 rfl _ (.tmp 17) rfl rfl rfl #[.int .i64 0, .int .i64 0, .bool false, .int .i64 0, .bool false] rfl rfl Try.szSl rfl rfl (slX_one _ _ _ _ _) ?_; intro w4 V4)
      exact bodyPost_ret (resT2 rfl _ V4 0 rfl rfl Try.underlying26 Try.szSl rfl) rfl ⟨by rw [HS.out, HE.out]; rfl, V4.bel⟩
    exact absurd ⟨hm, is01_in h0 h1⟩ ho
end Go.Proofs.Ytagppgdigabbmaa.N
